import Derived.Test.YtngfihoempcplaaGreatDoorSc38
namespace Go.Proofs.YtngfihoempcplaaGreatDoor
open Go Go.RowKit
set_option maxRecDepth 100000
set_option maxHeartbeats 20000000
def CnL (ks:List Cm):Prop:=∀ (A:Option Addr) (c:Nat) (z:Int) (w:World),RowC (LtX w.heap.size) w A ks→ -1≤z→z≤120→
 Calls Tryz.prog 24 #[.slice A ks.length c,.int .i64 z] w fun e w'=>e= .returned (.int .i64 (cnL ks z))∧Below w.heap.size w w'
def CnC (c:Cm):Prop:=CnL c.body∧CnL c.els∧∀ r∈c.rules,CnL r.body
theorem one_box13 (wr:World) (c1:List Value) (h1:0<c1.length) (T:TypeId):∀ W',Below (wr.alloc (.cells c1.toArray T)).heap.size (wr.alloc (.cells c1.toArray T)) W'→BoxL W' wr.heap.size c1:=fun _ hb=>(BoxL.new wr T c1).low h1 hb
theorem cn_list (ks:List Cm) (ih:∀ x∈ks,CnC x):CnL ks:=by
 intro A c z w hk hz1 hz2;obtain⟨G,hG⟩:∃ G,G=cnL ks z:=⟨_,rfl⟩;rw[←hG];obtain⟨m,hm⟩:∃ m,m=ks.length:=⟨_,rfl⟩;rw[←hm];have HG:=Lib.hid hG;have HM:=Lib.hid hm;have HK:=Lib.hid hk;have HI:=Lib.hid ih;clear hG hm hk ih;go_enter Tryz.func24,Tryz.ntmps24;go_wp2
 go_loopw [1,5] (fun g i wr=>∃ (j:Nat) (y:Int),j≤m∧j≤121∧i= .int .i64 j∧g= .int .i64 y∧Hid (y=cnL (ks.take j) z)∧ -1≤y∧y≤120∧Below w.heap.size w wr) (fun _ i _=>m - (intOf i).toNat)
 case atStart=>exact⟨0,z,by omega,by omega,rfl,rfl,Lib.hid (by rw[List.take_zero,cnL]),hz1,hz2,Below.refl _ _⟩
 case round=>
  obtain⟨j,y,hj,hj2,rfl,rfl,HY,hy1,hy2,hb⟩:=hrel;obtain⟨V,hV⟩:∃ V,V=wr:=⟨_,rfl⟩;subst hV;have HB:=Lib.hid hb;by_cases a:j<m
  ·by_cases hneg:y<0
   ·have HX2:Hid (y=G):=Lib.hid (by rw[HG.out,HY.out];exact(cnL_stop j (by rw[←HY.out];exact hneg)).symm)
    go_wp2;go_ret;exact⟨ret_int HX2.out,HB.out⟩
   ·obtain⟨r,hr⟩:=getX_of_lt HM.out a
    obtain⟨ad,lk,rfl,hp,h9,hkr⟩:=rowC_at HK.out hb hr;obtain⟨lp,lcp,lx,lcx,lb,lcb,le,lce,lu,lcu⟩:=lk;have hmem:=List.mem_of_getElem? hr;have hQ:=HI.out r hmem;have hidx:=cnL_idx (l:=ks) hz1 j (by have:=HM.out;omega) (by rw[←HY.out];omega);rw[←HY.out] at hidx;have hj3:j+1≤121:=by omega
    have htk:=cnL_take hr z;rw[←HY.out,if_neg hneg] at htk;have HST:Hid (cnL (ks.take (j+1)) z=cnS r y):=Lib.hid htk;have HNO:Hid (cnS r y<0→G=cnS r y):=Lib.hid fun h=>by rw[HG.out,←htk];exact cnL_stop (j+1) (by rw[htk];exact h)
    have HGE:=Lib.hid (cn_ge.1 r y (by omega));have hK:=kidC_eq.1 (hkr.of (fun _ h=>hb.cell h) fun _ h=>Nat.lt_of_lt_of_le h hb.size:KidC (LtX V.heap.size) V ⟨lp,lcp,lx,lcx,lb,lcb,le,lce,lu,lcu⟩ r)
    have KS:Hid (∀ w',Below V.heap.size V w'→Calls Tryz.prog 37 #[.agg #[.int .i64 r.cond.kind,.int .i64 r.cond.n,.string ⟨r.cond.name.toArray⟩,.string ⟨r.cond.op.toArray⟩,.slice lx r.cond.kids.length lcx],.int .i64 40] w' fun e w2=>e= .returned (.bool (decide (0≤cntX r.cond 40)))∧Below w'.heap.size w' w2):=Lib.hid fun w' hw=>by
     have:=smallX_any r.cond lx lcx 40 w' (hK.2.1.next hw) (by decide);rw[valX_eq] at this;exact this
    have HP:Hid (∀ w',Below V.heap.size V w'→Rd w'.heap.size w' lp r.parts.length r.parts):=Lib.hid fun w' hw=>rdP_rd.1 (hK.1.next hw)
    have KB:Hid (∀ w',Below V.heap.size V w'→Calls Tryz.prog 24 #[.slice lb r.body.length lcb,.int .i64 (y - 1)] w' fun e w2=>e= .returned (.int .i64 (cnL r.body (y - 1)))∧Below w'.heap.size w' w2):=Lib.hid fun w' hw=>hQ.1 _ _ _ w' (hK.2.2.1.next hw) (by omega) (by omega)
    have g1:=cnL_ge' r.body (z:=y - 1) (by omega);have KE:Hid (∀ w',Below V.heap.size V w'→Calls Tryz.prog 24 #[.slice le r.els.length lce,.int .i64 (cnL r.body (y - 1))] w' fun e w2=>e= .returned (.int .i64 (cnL r.els (cnL r.body (y - 1))))∧Below w'.heap.size w' w2):=Lib.hid fun w' hw=>hQ.2.1 _ _ _ w' (hK.2.2.2.1.next hw) (by omega) (by omega)
    have g2:=cnL_ge' r.els (z:=cnL r.body (y - 1)) (by omega);have KU:Hid (∀ (i:Nat) (u:Ru) (B:Option Addr) (k:Nat) (x:Int) w',r.rules[i]?=some u→ -1≤x→x≤120→Below V.heap.size V w'→KidR (LtX V.heap.size) V B u→Calls Tryz.prog 24 #[.slice B u.body.length k,.int .i64 x] w' fun e w2=>e= .returned (.int .i64 (cnL u.body x))∧Below w'.heap.size w' w2):=Lib.hid fun i u B k x w' h1 h2 h3 hw hz=>hQ.2.2 u (List.mem_of_getElem? h1) _ _ _ w' ((kidR_eq.1 hz).next hw) h2 h3
    have HU:Hid (RowU (LtX V.heap.size) V lu r.rules):=Lib.hid hK.2.2.2.2;have HCS:=Lib.hid (cnS_eq r y);obtain⟨X,hX⟩:∃ X:ByteArray,X=⟨r.name.toArray⟩:=⟨_,rfl⟩;have hXs:X.size=r.name.length:=by rw[hX];simp[ByteArray.size]
    have hbt:(ad.add (j * 13)).block<V.heap.size:=by rw[blockX_add];have:=hb.size;omega
    have h9:LieL V (ad.add (j * 13)) [.int .i64 r.kind,.string X,.int .i64 r.n,.slice lp r.parts.length lcp,.int .i64 r.cond.kind,.int .i64 r.cond.n,.string ⟨r.cond.name.toArray⟩,.string ⟨r.cond.op.toArray⟩,.slice lx r.cond.kids.length lcx,.slice lb r.body.length lcb,.slice le r.els.length lce,.slice lu r.rules.length lcu,.int .i64 r.pl]:=by rw[hX];exact h9
    obtain⟨c0,c1,c2,c3,c4,c5,c6,c7,c8,c9,c10,c11,c12⟩:=h9.at13;have HBX:=Lib.hid (one_box13 V [.int .i64 r.kind,.string X,.int .i64 r.n,.slice lp r.parts.length lcp,.int .i64 r.cond.kind,.int .i64 r.cond.n,.string ⟨r.cond.name.toArray⟩,.string ⟨r.cond.op.toArray⟩,.slice lx r.cond.kids.length lcx,.slice lb r.body.length lcb,.slice le r.els.length lce,.slice lu r.rules.length lcu,.int .i64 r.pl] (by simp) 41);have HNB:Hid (Below V.heap.size V (V.alloc (.cells #[.int .i64 r.kind,.string X,.int .i64 r.n,.slice lp r.parts.length lcp,.int .i64 r.cond.kind,.int .i64 r.cond.n,.string ⟨r.cond.name.toArray⟩,.string ⟨r.cond.op.toArray⟩,.slice lx r.cond.kids.length lcx,.slice lb r.body.length lcb,.slice le r.els.length lce,.slice lu r.rules.length lcu,.int .i64 r.pl] 41))):=Lib.hid (one_boxX V _);clear hX hr hmem hQ hidx htk hK hkr h9 hp hb;by_cases q1:60<X.size
    ·have HX:Hid (G= -1):=Lib.hid (by have e:=HCS.out;rw[if_pos (.inl (by omega))] at e;rw[HNO.out (by rw[e];decide),e])
     clear hXs;go_wp2;go_ret;exact⟨ret_int HX.out.symm,HB.out.trans ((one_boxX V _).mono HB.out.size)⟩
    by_cases q2:6<r.parts.length
    ·have HX:Hid (G= -1):=Lib.hid (by have e:=HCS.out;rw[if_pos (.inr (.inl q2))] at e;rw[HNO.out (by rw[e];decide),e])
     clear hXs;go_wp2;go_ret;exact⟨ret_int HX.out.symm,HB.out.trans ((one_boxX V _).mono HB.out.size)⟩
    by_cases q3:cntX r.cond 40<0
    ·have HX:Hid (G= -1):=Lib.hid (by have e:=HCS.out;rw[if_pos (.inr (.inr (.inl q3)))] at e;rw[HNO.out (by rw[e];decide),e])
     rw[decide_eq_false (by omega)] at KS;clear hXs q3;go_wp2_with (go_at_call 37;go_must ((with_reducible refine(KS.out _ (one_boxX V _)).mono ?_);rintro e w3 ⟨rfl,hb3⟩;have HB3:=Lib.hid ((one_boxX V _).trans (hb3.mono (by simp)));clear hb3));go_ret;exact⟨ret_int HX.out.symm,HB.out.trans (HB3.out.mono HB.out.size)⟩
    rw[decide_eq_true (by omega)] at KS;have Q1:=Lib.hid q1;have Q2:=Lib.hid q2;have Q3:=Lib.hid q3;have HXS:=Lib.hid hXs;have hps:r.parts.length≤6:=by omega
    clear q3 hXs;go_wp2_with (go_at_call 37;go_must ((with_reducible refine(KS.out _ (one_boxX V _)).mono ?_);rintro e w3 ⟨rfl,hb3⟩;have HT3:=Lib.hid hb3;have y3:=(HBX.out _ hb3).at_ 3 _ rfl;clear hb3))
    go_loopw [45] (fun i wr2=>∃ q:Nat,q≤r.parts.length∧i= .int .i64 q∧(r.parts.take q).all okQ=true∧Hid (Below (V.alloc (.cells #[.int .i64 r.kind,.string X,.int .i64 r.n,.slice lp r.parts.length lcp,.int .i64 r.cond.kind,.int .i64 r.cond.n,.string ⟨r.cond.name.toArray⟩,.string ⟨r.cond.op.toArray⟩,.slice lx r.cond.kids.length lcx,.slice lb r.body.length lcb,.slice le r.els.length lce,.slice lu r.rules.length lcu,.int .i64 r.pl] 41)).heap.size (V.alloc (.cells #[.int .i64 r.kind,.string X,.int .i64 r.n,.slice lp r.parts.length lcp,.int .i64 r.cond.kind,.int .i64 r.cond.n,.string ⟨r.cond.name.toArray⟩,.string ⟨r.cond.op.toArray⟩,.slice lx r.cond.kids.length lcx,.slice lb r.body.length lcb,.slice le r.els.length lce,.slice lu r.rules.length lcu,.int .i64 r.pl] 41)) wr2)) (fun i _=>r.parts.length - (intOf i).toNat)
    case atStart=>exact⟨0,by omega,rfl,rfl,HT3⟩
    case round=>
     obtain⟨q,hq,rfl,hall,HW⟩:=hrel;have HAL:=Lib.hid hall;clear hall c0 c1 c2 c3 c4 c5 c6 c7 c8 c9 c10 c11 c12;have hbw:Below V.heap.size V wr:=HNB.out.trans (HW.out.mono (by simp));by_cases aq:q<r.parts.length
     ·obtain⟨p,hp⟩:=getX_of_lt rfl aq
      obtain⟨ad3,rfl,hrd⟩:=(HP.out wr hbw).2 (by omega);obtain⟨x0,x1⟩:=hrd.at_ hp
      have hall1:=all_take okQ hp;rw[HAL.out,Bool.true_and] at hall1;have HNA:Hid (okQ p=false→r.parts.all okQ=false):=Lib.hid fun h=>all_not okQ hp h
      obtain⟨P1,hP1⟩:∃ X:ByteArray,X=⟨p.1.toArray⟩:=⟨_,rfl⟩;obtain⟨P2,hP2⟩:∃ X:ByteArray,X=⟨p.2.toArray⟩:=⟨_,rfl⟩;have s1:P1.size=p.1.length:=by rw[hP1];simp[ByteArray.size]
      have s2:P2.size=p.2.length:=by rw[hP2];simp[ByteArray.size]
      rw[←hP1] at x0;rw[←hP2] at x1;have hbz:(ad3.add (q * 2)).block<wr.heap.size:=World.block_lt_of_cell? wr _ x0;have HBW:=Lib.hid hbw;clear hP1 hP2 hp hrd hbw;by_cases p1:60<P1.size
      ·have HX:Hid (G= -1):=Lib.hid (by have e:=HCS.out;rw[if_pos (.inr (.inr (.inr (by rw[HNA.out (by unfold okQ;simp;omega)];decide))))] at e;rw[HNO.out (by rw[e];decide),e])
       clear s1 s2 hall1;go_wp2;go_ret;exact⟨ret_int HX.out.symm,HB.out.trans ((HBW.out.trans ((one_boxX _ _).mono HBW.out.size)).mono HB.out.size)⟩
      by_cases p2:60<P2.size
      ·have HX:Hid (G= -1):=Lib.hid (by have e:=HCS.out;rw[if_pos (.inr (.inr (.inr (by rw[HNA.out (by unfold okQ;simp;omega)];decide))))] at e;rw[HNO.out (by rw[e];decide),e])
       clear s1 s2 hall1;go_wp2;go_ret;exact⟨ret_int HX.out.symm,HB.out.trans ((HBW.out.trans ((one_boxX _ _).mono HBW.out.size)).mono HB.out.size)⟩
      have HA2:Hid ((r.parts.take (q+1)).all okQ=true):=Lib.hid (by rw[hall1];unfold okQ;simp;omega);clear s1 s2 hall1;go_wp2
      go_roundw
      case rel=>exact⟨q+1,by omega,by go_num,HA2.out,Lib.hid (HW.out.trans ((one_boxX _ _).mono HW.out.size))⟩
      case measure=>simp[intOf];omega
     ·have HALL:Hid (r.parts.all okQ=true):=Lib.hid (by have:=HAL.out;rw[List.take_of_length_le (by omega)] at this;exact this)
      have HC2:Hid (cnS r y=cnU r.rules (cnL r.els (cnL r.body (y - 1)))):=Lib.hid (by
       have e:=HCS.out;rw[if_neg (by rintro(h | h | h | h);exact absurd h (by have:=Q1.out;have:=HXS.out;omega);exact absurd h Q2.out;exact absurd h (by have:=Q3.out;omega);exact absurd HALL.out h)] at e;exact e)
      have HBW:=Lib.hid hbw;obtain⟨y1,hy11⟩:∃ x,x=cnL r.body (y - 1):=⟨_,rfl⟩;rw[←hy11] at KB KE HC2 g1 g2;obtain⟨y2,hy22⟩:∃ x,x=cnL r.els y1:=⟨_,rfl⟩;rw[←hy22] at KE HC2 g2;have b9:=(HBX.out _ HW.out).at_ 9 _ rfl
      have b10:=(HBX.out _ HW.out).at_ 10 _ rfl
      clear hbw hy11 hy22 y3;go_wp2;have n9:=b9;have n10:=b10
      go_region_held3 (fun W'=>W'.cell? ⟨V.heap.size,9,none⟩=some (.slice lb r.body.length lcb)∧W'.cell? ⟨V.heap.size,10,none⟩=some (.slice le r.els.length lce))
       (first | (with_reducible exact⟨b9,b10⟩) | (with_reducible exact⟨n9,n10⟩) | (simp only[World.cell?_drew,b9,b10,and_self]))
       (first
        | (go_at_call 24;((with_reducible refine(KB.out _ (HBW.out.trans (((Below.refl _ _).drew).mono HBW.out.size))).mono ?_));rintro e w6 ⟨rfl,hb6⟩;have HT6:=Lib.hid (HW.out.trans ((((Below.refl _ _).drew).trans hb6).mono HW.out.size));have HV6:=Lib.hid (HBW.out.trans ((((Below.refl _ _).drew).trans hb6).mono HBW.out.size));obtain⟨n9,n10⟩:_∧_:=⟨(HBX.out _ HT6.out).at_ 9 _ rfl,(HBX.out _ HT6.out).at_ 10 _ rfl⟩;clear hb6 KB)
        | (go_at_call 24;((with_reducible refine(KE.out _ HV6.out).mono ?_));rintro e w7 ⟨rfl,hb7⟩;have HT7:=Lib.hid (HT6.out.trans (hb7.mono HT6.out.size));obtain⟨n9,n10⟩:_∧_:=⟨(HBX.out _ HT7.out).at_ 9 _ rfl,(HBX.out _ HT7.out).at_ 10 _ rfl⟩;clear hb7))
      obtain⟨W7,hW7⟩:∃ W,W=w7:=⟨_,rfl⟩;subst hW7;obtain⟨nu,hnu⟩:∃ x,x=r.rules.length:=⟨_,rfl⟩;have HNU:=Lib.hid hnu;rw[←hnu] at HBX HW HT7;rw[←hnu];have HHW:=HW;clear hnu b9 b10 n9 n10 HT6 HV6 HW aq;go_wp2
      go_loopw [1,9] (fun g i wr2=>∃ (q2:Nat) (x:Int),q2≤nu∧q2≤121∧i= .int .i64 q2∧g= .int .i64 x∧Hid (x=cnU (r.rules.take q2) y2)∧ -1≤x∧x≤120∧Hid (Below (V.alloc (.cells #[.int .i64 r.kind,.string X,.int .i64 r.n,.slice lp r.parts.length lcp,.int .i64 r.cond.kind,.int .i64 r.cond.n,.string ⟨r.cond.name.toArray⟩,.string ⟨r.cond.op.toArray⟩,.slice lx r.cond.kids.length lcx,.slice lb r.body.length lcb,.slice le r.els.length lce,.slice lu nu lcu,.int .i64 r.pl] 41)).heap.size (V.alloc (.cells #[.int .i64 r.kind,.string X,.int .i64 r.n,.slice lp r.parts.length lcp,.int .i64 r.cond.kind,.int .i64 r.cond.n,.string ⟨r.cond.name.toArray⟩,.string ⟨r.cond.op.toArray⟩,.slice lx r.cond.kids.length lcx,.slice lb r.body.length lcb,.slice le r.els.length lce,.slice lu nu lcu,.int .i64 r.pl] 41)) wr2)) (fun _ i _=>nu - (intOf i).toNat)
      case atStart=>exact⟨0,y2,by omega,by omega,rfl,rfl,Lib.hid (by rw[List.take_zero,cnU]),by omega,by omega,HT7⟩
      case round=>
       obtain⟨q2,x,hq2,hq3,rfl,rfl,HXX,hx1,hx2,HW2⟩:=hrel;have hbw:Below V.heap.size V wr:=(one_boxX V _).trans (HW2.out.mono (by simp));have HBW2:=Lib.hid hbw;have b11:=(HBX.out _ HW2.out).at_ 11 _ rfl
       by_cases a3:q2<nu
       ·by_cases n3:x<0
        ·have HE2:Hid (x=cnL (ks.take (j+1)) z):=Lib.hid (by
          rw[HST.out,HC2.out,HXX.out];exact(cnU_stop q2 (by rw[←HXX.out];exact n3)).symm)
         clear hbw;go_wp2
         go_roundw
         case rel=>exact⟨j+1,x,by omega,hj3,by go_num,rfl,HE2,hx1,hx2,HB.out.trans (HBW2.out.mono HB.out.size)⟩
         case measure=>simp[intOf];omega
        ·obtain⟨u,hu⟩:=getX_of_lt HNU.out a3
         obtain⟨ad4,B,k4,rfl,hp4,h5,hk4⟩:=rowU_at HU.out hbw hu;have htk3:=cnU_take hu y2;rw[←HXX.out,if_neg n3] at htk3;have hidx:=cnU_idx (l:=r.rules) (z:=y2) (by omega) q2 (by have:=HNU.out;omega) (by rw[←HXX.out];omega);rw[←HXX.out] at hidx;have hq4:q2+1≤121:=by omega
         have KR:=Lib.hid (KU.out q2 u B k4 (x - 1) wr hu (by omega) (by omega) hbw hk4);have hge:=cnL_ge' u.body (z:=x - 1) (by omega);have hre:=cnR_eq u x;have HTK:=Lib.hid htk3
         have HN3:Hid (cnR u x<0→G=cnR u x):=Lib.hid fun h=>by
          have e1:=cnU_stop (l:=r.rules) (z:=y2) (q2+1) (by rw[htk3];exact h);rw[htk3,←HC2.out] at e1;rw[HNO.out (by rw[e1];exact h),e1]
         obtain⟨P3,hP3⟩:∃ X:ByteArray,X=⟨u.pt.toArray⟩:=⟨_,rfl⟩;have s3:P3.size=u.pt.length:=by rw[hP3];simp[ByteArray.size]
         obtain⟨d0,d1,d2,d3,d4,d5⟩:=h5.at6;rw[←hP3] at d3;have hbz:(ad4.add (q2 * 6)).block<wr.heap.size:=World.block_lt_of_cell? wr _ d0;clear hu hp4 h5 hk4 htk3 hidx hP3 hbw;by_cases p3:60<P3.size
         ·have HX:Hid (G= -1):=Lib.hid (by rw[if_pos (by omega)] at hre;rw[HN3.out (by rw[hre];decide),hre])
          clear hre s3 hge;go_wp2;go_ret;exact⟨ret_int HX.out.symm,HB.out.trans (HBW2.out.mono HB.out.size)⟩
         ·rw[if_neg (by omega)] at hre
          obtain⟨y3,hy33⟩:∃ t,t=cnL u.body (x - 1):=⟨_,rfl⟩;rw[←hy33] at KR hre hge;have HRE:=Lib.hid hre;clear hre s3 hy33;go_wp2_with (go_at_call 24;go_must ((with_reducible refine(KR.out).mono ?_);rintro e w8 ⟨rfl,hb8⟩;have HW8:=Lib.hid (HW2.out.trans (hb8.mono HW2.out.size));clear hb8))
          go_roundw
          case rel=>exact⟨q2+1,y3,by omega,hq4,by go_num,rfl,Lib.hid (by rw[HTK.out,HRE.out]),by omega,by omega,HW8⟩
          case measure=>simp[intOf];omega
       ·have HE2:Hid (x=cnL (ks.take (j+1)) z):=Lib.hid (by
         rw[HST.out,HC2.out,HXX.out,List.take_of_length_le (by have:=HNU.out;omega)])
        clear hbw;go_wp2
        go_roundw
        case rel=>exact⟨j+1,x,by omega,hj3,by go_num,rfl,HE2,hx1,hx2,HB.out.trans (HBW2.out.mono HB.out.size)⟩
        case measure=>simp[intOf];omega
  ·have HX2:Hid (y=G):=Lib.hid (by rw[HG.out,HY.out,List.take_of_length_le (by have:=HM.out;omega)])
   go_wp2;go_ret;exact⟨ret_int HX2.out,HB.out⟩
theorem cnl_all:(∀ c,CnC c)∧∀ r:Ru,CnL r.body:=Cm.ind2 (P:=CnC) (Q:=fun r=>CnL r.body) (fun _ _ _ _ _ b e _ _ hb he hu=>⟨cn_list b hb,cn_list e he,hu⟩) (fun _ _ _ _ b _ hb=>cn_list b hb)
theorem countS_any (b:List Cm):CnL b:=cn_list b fun x _=>cnl_all.1 x
theorem smallS_any (b:List Cm) (A:Option Addr) (c:Nat) (w:World) (hk:RowC (LtX w.heap.size) w A b):
  Calls Tryz.prog 11 #[.slice A b.length c,.int .i64 40] w fun e w'=>e= .returned (.bool (decide (0≤cnL b 40)))∧Below w.heap.size w w':=by
 have K:=Lib.hid (countS_any b A c 40 w hk (by decide) (by decide));generalize cnL b 40=z at K ⊢;generalize b.length=m at K ⊢;clear hk;by_cases h0:0≤z
 ·go_enter Tryz.func11,Tryz.ntmps11
  go_wp2_with (go_at_call 24;((with_reducible refine(K.out).mono ?_));rintro e w' ⟨rfl,hb2⟩);go_ret;exact⟨by simp[h0],hb2⟩
 ·go_enter Tryz.func11,Tryz.ntmps11
  go_wp2_with (go_at_call 24;((with_reducible refine(K.out).mono ?_));rintro e w' ⟨rfl,hb2⟩);go_ret;exact⟨by simp,hb2⟩
end Go.Proofs.YtngfihoempcplaaGreatDoor
