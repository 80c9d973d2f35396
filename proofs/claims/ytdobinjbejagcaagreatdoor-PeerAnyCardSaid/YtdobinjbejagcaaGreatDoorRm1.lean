import Derived.Deep.CutBlock
import Derived.Test.YtdobinjbejagcaaGreatDoorRc8
import Derived.Test.YtdobinjbejagcaaGreatDoorPm6
namespace Go.Proofs.YtdobinjbejagcaaGreatDoor
open Go Go.RowKit
set_option maxRecDepth 100000
set_option maxHeartbeats 4000000
def timesB (lo hi:Int):Bool:=decide (0≤lo∧lo≤9) && (decide (hi= -1) || decide (lo≤hi∧hi≤9))
theorem cmaydel_any (lo hi:Int) (w:World):Calls Tryz.prog 79 #[.int .i64 lo,.int .i64 hi] w fun e w'=>e= .returned (.bool (timesB lo hi))∧w=w':=by
 obtain⟨v,hv⟩:∃ v,v=timesB lo hi:=⟨_,rfl⟩;rw[←hv];unfold timesB at hv;by_cases h1:0≤lo
 ·by_cases h2:lo≤9
  ·by_cases h3:hi= -1
   ·have HV:Hid (v=true):=Lib.hid (by rw[hv,decide_eq_true ⟨h1,h2⟩,decide_eq_true h3];rfl)
    have b3:(hi== -1)=true:=by simpa using h3
    clear hv h3;go_enter Tryz.func79,Tryz.ntmps79;go_wp2;go_ret;exact⟨ret_bool HV.out.symm,rfl⟩
   ·have b3:(hi== -1)=false:=by simpa using h3
    by_cases h4:lo≤hi
    ·by_cases h5:hi≤9
     ·have HV:Hid (v=true):=Lib.hid (by rw[hv,decide_eq_true ⟨h1,h2⟩,decide_eq_true (p:=lo≤hi∧hi≤9) ⟨h4,h5⟩];simp)
      clear hv h3;go_enter Tryz.func79,Tryz.ntmps79;go_wp2;go_ret;exact⟨ret_bool HV.out.symm,rfl⟩
     ·have HV:Hid (v=false):=Lib.hid (by rw[hv,decide_eq_false h3,decide_eq_false (p:=lo≤hi∧hi≤9) (fun h=>h5 h.2)];simp)
      clear hv h3;go_enter Tryz.func79,Tryz.ntmps79;go_wp2;go_ret;exact⟨ret_bool HV.out.symm,rfl⟩
    ·have HV:Hid (v=false):=Lib.hid (by rw[hv,decide_eq_false h3,decide_eq_false (p:=lo≤hi∧hi≤9) (fun h=>h4 h.1)];simp)
     clear hv h3;go_enter Tryz.func79,Tryz.ntmps79;go_wp2;go_ret;exact⟨ret_bool HV.out.symm,rfl⟩
  ·have HV:Hid (v=false):=Lib.hid (by rw[hv,decide_eq_false (p:=0≤lo∧lo≤9) (fun h=>h2 h.2)];rfl)
   clear hv;go_enter Tryz.func79,Tryz.ntmps79;go_wp2;go_ret;exact⟨ret_bool HV.out.symm,rfl⟩
 ·have HV:Hid (v=false):=Lib.hid (by rw[hv,decide_eq_false (p:=0≤lo∧lo≤9) (fun h=>h1 h.1)];rfl)
  clear hv;go_enter Tryz.func79,Tryz.ntmps79;go_wp2;go_ret;exact⟨ret_bool HV.out.symm,rfl⟩
theorem cmayedge_emit (T:ByteArray) (lo hi tt cap:Int) (A:Option Addr) (n c:Nat) (w:World) (u tb v:Bool) (hv:v=(tb && (decide (0≤tt∧tt<n) && u)))
  (KM:Hid (∀ w',Calls Tryz.prog 78 #[.int .i64 1,.string T,.int .i64 cap] w' fun e' w2=>e'= .returned (.bool u)∧Below w'.heap.size w' w2))
  (KD:Hid (∀ w',Calls Tryz.prog 79 #[.int .i64 lo,.int .i64 hi] w' fun e' w2=>e'= .returned (.bool tb)∧w'=w2)):
  Calls Tryz.prog 53 #[.agg #[.int .i64 1,.string T,.int .i64 lo,.int .i64 hi,.int .i64 tt],.agg #[.int .i64 cap,.slice A n c]] w fun r w'=>r= .returned (.bool v)∧Below w.heap.size w w':=by
 have KF:Hid (∀ w',Calls Tryz.prog 72 #[.int .i64 1] w' fun e w2=>e= .returned (.tuple #[.string ⟨wEmit.toArray⟩,.int .i64 7])∧w'=w2):=Lib.hid fun w'=>cform_any 1 w'
 have bS:(⟨wEmit.toArray⟩:ByteArray).toList.isEmpty=false:=by rw[toList_data];rfl
 generalize (⟨wEmit.toArray⟩:ByteArray)=SW at KF bS;have HB2:Hid (∀ T U:TypeId,∀ a b:Array Value,Below w.heap.size w ((w.alloc (.cells a T)).alloc (.cells b U))):=Lib.hid fun _ _ _ _=>(one_boxP w _).trans ((one_boxP _ _).mono (one_boxP w _).size)
 have HCC:Hid (∀ w',Below ((w.alloc (.cells #[.int .i64 1,.string T,.int .i64 lo,.int .i64 hi,.int .i64 tt] 39)).alloc (.cells #[.int .i64 cap,.slice A n c] 24)).heap.size ((w.alloc (.cells #[.int .i64 1,.string T,.int .i64 lo,.int .i64 hi,.int .i64 tt] 39)).alloc (.cells #[.int .i64 cap,.slice A n c] 24)) w'→w'.cell? ⟨w.heap.size,0,none⟩=some (.int .i64 1)∧w'.cell? ⟨w.heap.size,2,none⟩=some (.int .i64 lo)∧w'.cell? ⟨w.heap.size,3,none⟩=some (.int .i64 hi)∧w'.cell? ⟨w.heap.size,4,none⟩=some (.int .i64 tt)∧w'.cell? ⟨w.heap.size+1,0,none⟩=some (.int .i64 cap)∧w'.cell? ⟨w.heap.size+1,1,none⟩=some (.slice A n c)):=Lib.hid fun w' hb=>by
  refine⟨(hb.cell (p:=⟨w.heap.size,0,none⟩) (by simp <;> omega)).trans ?_,(hb.cell (p:=⟨w.heap.size,2,none⟩) (by simp <;> omega)).trans ?_,(hb.cell (p:=⟨w.heap.size,3,none⟩) (by simp <;> omega)).trans ?_,(hb.cell (p:=⟨w.heap.size,4,none⟩) (by simp <;> omega)).trans ?_,(hb.cell (p:=⟨w.heap.size+1,0,none⟩) (by simp <;> omega)).trans ?_,(hb.cell (p:=⟨w.heap.size+1,1,none⟩) (by simp <;> omega)).trans ?_⟩ <;> simp[go_sem]
 cases u with
 | false=>
   have HV:Hid (v=false):=Lib.hid (by rw[hv];simp[]);clear hv;go_enter Tryz.func53,Tryz.ntmps53
   go_upto_region 2 with (go_at_call 72;go_must (((with_reducible refine(KF.out _).mono ?_));rintro e1 w1 ⟨rfl,rfl⟩))
   simp only[List.append_eq,List.cons_append,List.nil_append]
   go_wp2_with (first
    | (go_at_call 78;go_must (((with_reducible refine(KM.out _).mono ?_));rintro e2 w2 ⟨rfl,hb⟩;have HBW:=Lib.hid ((HB2.out 39 24 _ _).trans (hb.mono (HB2.out _ _ _ _).size));have HCW:=HCC.out _ hb;obtain⟨m0,m1,m2,m3,m4,m5⟩:=HCW;clear hb)))
   go_ret;exact⟨ret_bool HV.out.symm,HBW.out⟩
 | true=>
   cases tb with
   | false=>
     have HV:Hid (v=false):=Lib.hid (by rw[hv];simp[]);clear hv;go_enter Tryz.func53,Tryz.ntmps53
     go_upto_region 2 with (go_at_call 72;go_must (((with_reducible refine(KF.out _).mono ?_));rintro e1 w1 ⟨rfl,rfl⟩))
     simp only[List.append_eq,List.cons_append,List.nil_append]
     go_wp2_with (first
      | (go_at_call 78;go_must (((with_reducible refine(KM.out _).mono ?_));rintro e2 w2 ⟨rfl,hb⟩;have HBW:=Lib.hid ((HB2.out 39 24 _ _).trans (hb.mono (HB2.out _ _ _ _).size));have HCW:=HCC.out _ hb;obtain⟨m0,m1,m2,m3,m4,m5⟩:=HCW;clear hb))
      | (go_at_call 79;go_must (((with_reducible refine(KD.out _).mono ?_));rintro e3 w3 ⟨rfl,rfl⟩)))
     go_ret;exact⟨ret_bool HV.out.symm,HBW.out⟩
   | true=>
     by_cases t0:0≤tt
     ·by_cases t1:tt<n
      ·have HV:Hid (v=true):=Lib.hid (by rw[hv];simp[t0,t1])
       clear hv;go_enter Tryz.func53,Tryz.ntmps53
       go_upto_region 2 with (go_at_call 72;go_must (((with_reducible refine(KF.out _).mono ?_));rintro e1 w1 ⟨rfl,rfl⟩))
       simp only[List.append_eq,List.cons_append,List.nil_append]
       go_wp2_with (first
        | (go_at_call 78;go_must (((with_reducible refine(KM.out _).mono ?_));rintro e2 w2 ⟨rfl,hb⟩;have HBW:=Lib.hid ((HB2.out 39 24 _ _).trans (hb.mono (HB2.out _ _ _ _).size));have HCW:=HCC.out _ hb;obtain⟨m0,m1,m2,m3,m4,m5⟩:=HCW;clear hb))
        | (go_at_call 79;go_must (((with_reducible refine(KD.out _).mono ?_));rintro e3 w3 ⟨rfl,rfl⟩)))
       go_ret;exact⟨ret_bool HV.out.symm,HBW.out⟩
      ·have HV:Hid (v=false):=Lib.hid (by rw[hv];simp[t0,t1])
       clear hv;go_enter Tryz.func53,Tryz.ntmps53
       go_upto_region 2 with (go_at_call 72;go_must (((with_reducible refine(KF.out _).mono ?_));rintro e1 w1 ⟨rfl,rfl⟩))
       simp only[List.append_eq,List.cons_append,List.nil_append]
       go_wp2_with (first
        | (go_at_call 78;go_must (((with_reducible refine(KM.out _).mono ?_));rintro e2 w2 ⟨rfl,hb⟩;have HBW:=Lib.hid ((HB2.out 39 24 _ _).trans (hb.mono (HB2.out _ _ _ _).size));have HCW:=HCC.out _ hb;obtain⟨m0,m1,m2,m3,m4,m5⟩:=HCW;clear hb))
        | (go_at_call 79;go_must (((with_reducible refine(KD.out _).mono ?_));rintro e3 w3 ⟨rfl,rfl⟩)))
       go_ret;exact⟨ret_bool (by rw[HV.out];simp[t1]),HBW.out⟩
     ·have HV:Hid (v=false):=Lib.hid (by rw[hv];simp[t0])
      clear hv;go_enter Tryz.func53,Tryz.ntmps53
      go_upto_region 2 with (go_at_call 72;go_must (((with_reducible refine(KF.out _).mono ?_));rintro e1 w1 ⟨rfl,rfl⟩))
      simp only[List.append_eq,List.cons_append,List.nil_append]
      go_wp2_with (first
       | (go_at_call 78;go_must (((with_reducible refine(KM.out _).mono ?_));rintro e2 w2 ⟨rfl,hb⟩;have HBW:=Lib.hid ((HB2.out 39 24 _ _).trans (hb.mono (HB2.out _ _ _ _).size));have HCW:=HCC.out _ hb;obtain⟨m0,m1,m2,m3,m4,m5⟩:=HCW;clear hb))
       | (go_at_call 79;go_must (((with_reducible refine(KD.out _).mono ?_));rintro e3 w3 ⟨rfl,rfl⟩)))
      go_ret;exact⟨ret_bool HV.out.symm,HBW.out⟩
theorem cmayedge_line (T:ByteArray) (lo hi tt cap:Int) (A:Option Addr) (n c:Nat) (w:World) (u tb v:Bool) (hv:v=(decide (lo=0) && (decide (hi=0) && (decide (0≤tt∧tt<n) && u))))
  (KM:Hid (∀ w',Calls Tryz.prog 78 #[.int .i64 2,.string T,.int .i64 cap] w' fun e' w2=>e'= .returned (.bool u)∧Below w'.heap.size w' w2))
  (_KD:Hid (∀ w',Calls Tryz.prog 79 #[.int .i64 lo,.int .i64 hi] w' fun e' w2=>e'= .returned (.bool tb)∧w'=w2)):
  Calls Tryz.prog 53 #[.agg #[.int .i64 2,.string T,.int .i64 lo,.int .i64 hi,.int .i64 tt],.agg #[.int .i64 cap,.slice A n c]] w fun r w'=>r= .returned (.bool v)∧Below w.heap.size w w':=by
 have KF:Hid (∀ w',Calls Tryz.prog 72 #[.int .i64 2] w' fun e w2=>e= .returned (.tuple #[.string ⟨wLine.toArray⟩,.int .i64 5])∧w'=w2):=Lib.hid fun w'=>cform_any 2 w'
 have bS:(⟨wLine.toArray⟩:ByteArray).toList.isEmpty=false:=by rw[toList_data];rfl
 generalize (⟨wLine.toArray⟩:ByteArray)=SW at KF bS;have HB2:Hid (∀ T U:TypeId,∀ a b:Array Value,Below w.heap.size w ((w.alloc (.cells a T)).alloc (.cells b U))):=Lib.hid fun _ _ _ _=>(one_boxP w _).trans ((one_boxP _ _).mono (one_boxP w _).size)
 have HCC:Hid (∀ w',Below ((w.alloc (.cells #[.int .i64 2,.string T,.int .i64 lo,.int .i64 hi,.int .i64 tt] 39)).alloc (.cells #[.int .i64 cap,.slice A n c] 24)).heap.size ((w.alloc (.cells #[.int .i64 2,.string T,.int .i64 lo,.int .i64 hi,.int .i64 tt] 39)).alloc (.cells #[.int .i64 cap,.slice A n c] 24)) w'→w'.cell? ⟨w.heap.size,0,none⟩=some (.int .i64 2)∧w'.cell? ⟨w.heap.size,2,none⟩=some (.int .i64 lo)∧w'.cell? ⟨w.heap.size,3,none⟩=some (.int .i64 hi)∧w'.cell? ⟨w.heap.size,4,none⟩=some (.int .i64 tt)∧w'.cell? ⟨w.heap.size+1,0,none⟩=some (.int .i64 cap)∧w'.cell? ⟨w.heap.size+1,1,none⟩=some (.slice A n c)):=Lib.hid fun w' hb=>by
  refine⟨(hb.cell (p:=⟨w.heap.size,0,none⟩) (by simp <;> omega)).trans ?_,(hb.cell (p:=⟨w.heap.size,2,none⟩) (by simp <;> omega)).trans ?_,(hb.cell (p:=⟨w.heap.size,3,none⟩) (by simp <;> omega)).trans ?_,(hb.cell (p:=⟨w.heap.size,4,none⟩) (by simp <;> omega)).trans ?_,(hb.cell (p:=⟨w.heap.size+1,0,none⟩) (by simp <;> omega)).trans ?_,(hb.cell (p:=⟨w.heap.size+1,1,none⟩) (by simp <;> omega)).trans ?_⟩ <;> simp[go_sem]
 cases u with
 | false=>
   have HV:Hid (v=false):=Lib.hid (by rw[hv];simp[]);clear hv;go_enter Tryz.func53,Tryz.ntmps53
   go_upto_region 2 with (go_at_call 72;go_must (((with_reducible refine(KF.out _).mono ?_));rintro e1 w1 ⟨rfl,rfl⟩))
   simp only[List.append_eq,List.cons_append,List.nil_append]
   go_wp2_with (first
    | (go_at_call 78;go_must (((with_reducible refine(KM.out _).mono ?_));rintro e2 w2 ⟨rfl,hb⟩;have HBW:=Lib.hid ((HB2.out 39 24 _ _).trans (hb.mono (HB2.out _ _ _ _).size));have HCW:=HCC.out _ hb;obtain⟨m0,m1,m2,m3,m4,m5⟩:=HCW;clear hb)))
   go_ret;exact⟨ret_bool HV.out.symm,HBW.out⟩
 | true=>
   by_cases d1:lo=0
   ·have bd1:(lo==0)=true:=by simpa using d1
    by_cases d2:hi=0
    ·have bd2:(hi==0)=true:=by simpa using d2
     by_cases t0:0≤tt
     ·by_cases t1:tt<n
      ·have HV:Hid (v=true):=Lib.hid (by rw[hv];simp[d1,d2,t0,t1])
       clear hv d1 d2;go_enter Tryz.func53,Tryz.ntmps53
       go_upto_region 2 with (go_at_call 72;go_must (((with_reducible refine(KF.out _).mono ?_));rintro e1 w1 ⟨rfl,rfl⟩))
       simp only[List.append_eq,List.cons_append,List.nil_append]
       go_wp2_with (first
        | (go_at_call 78;go_must (((with_reducible refine(KM.out _).mono ?_));rintro e2 w2 ⟨rfl,hb⟩;have HBW:=Lib.hid ((HB2.out 39 24 _ _).trans (hb.mono (HB2.out _ _ _ _).size));have HCW:=HCC.out _ hb;obtain⟨m0,m1,m2,m3,m4,m5⟩:=HCW;clear hb)))
       go_ret;exact⟨ret_bool HV.out.symm,HBW.out⟩
      ·have HV:Hid (v=false):=Lib.hid (by rw[hv];simp[d1,d2,t0,t1])
       clear hv d1 d2;go_enter Tryz.func53,Tryz.ntmps53
       go_upto_region 2 with (go_at_call 72;go_must (((with_reducible refine(KF.out _).mono ?_));rintro e1 w1 ⟨rfl,rfl⟩))
       simp only[List.append_eq,List.cons_append,List.nil_append]
       go_wp2_with (first
        | (go_at_call 78;go_must (((with_reducible refine(KM.out _).mono ?_));rintro e2 w2 ⟨rfl,hb⟩;have HBW:=Lib.hid ((HB2.out 39 24 _ _).trans (hb.mono (HB2.out _ _ _ _).size));have HCW:=HCC.out _ hb;obtain⟨m0,m1,m2,m3,m4,m5⟩:=HCW;clear hb)))
       go_ret;exact⟨ret_bool (by rw[HV.out];simp[t1]),HBW.out⟩
     ·have HV:Hid (v=false):=Lib.hid (by rw[hv];simp[d1,d2,t0])
      clear hv d1 d2;go_enter Tryz.func53,Tryz.ntmps53
      go_upto_region 2 with (go_at_call 72;go_must (((with_reducible refine(KF.out _).mono ?_));rintro e1 w1 ⟨rfl,rfl⟩))
      simp only[List.append_eq,List.cons_append,List.nil_append]
      go_wp2_with (first
       | (go_at_call 78;go_must (((with_reducible refine(KM.out _).mono ?_));rintro e2 w2 ⟨rfl,hb⟩;have HBW:=Lib.hid ((HB2.out 39 24 _ _).trans (hb.mono (HB2.out _ _ _ _).size));have HCW:=HCC.out _ hb;obtain⟨m0,m1,m2,m3,m4,m5⟩:=HCW;clear hb)))
      go_ret;exact⟨ret_bool HV.out.symm,HBW.out⟩
    ·have bd2:(hi==0)=false:=by simpa using d2
     have HV:Hid (v=false):=Lib.hid (by rw[hv];simp[d1,d2]);clear hv d1 d2;go_enter Tryz.func53,Tryz.ntmps53
     go_upto_region 2 with (go_at_call 72;go_must (((with_reducible refine(KF.out _).mono ?_));rintro e1 w1 ⟨rfl,rfl⟩))
     simp only[List.append_eq,List.cons_append,List.nil_append]
     go_wp2_with (first
      | (go_at_call 78;go_must (((with_reducible refine(KM.out _).mono ?_));rintro e2 w2 ⟨rfl,hb⟩;have HBW:=Lib.hid ((HB2.out 39 24 _ _).trans (hb.mono (HB2.out _ _ _ _).size));have HCW:=HCC.out _ hb;obtain⟨m0,m1,m2,m3,m4,m5⟩:=HCW;clear hb)))
     go_ret;exact⟨ret_bool HV.out.symm,HBW.out⟩
   ·have bd1:(lo==0)=false:=by simpa using d1
    have HV:Hid (v=false):=Lib.hid (by rw[hv];simp[d1]);clear hv d1;go_enter Tryz.func53,Tryz.ntmps53
    go_upto_region 2 with (go_at_call 72;go_must (((with_reducible refine(KF.out _).mono ?_));rintro e1 w1 ⟨rfl,rfl⟩))
    simp only[List.append_eq,List.cons_append,List.nil_append]
    go_wp2_with (first
     | (go_at_call 78;go_must (((with_reducible refine(KM.out _).mono ?_));rintro e2 w2 ⟨rfl,hb⟩;have HBW:=Lib.hid ((HB2.out 39 24 _ _).trans (hb.mono (HB2.out _ _ _ _).size));have HCW:=HCC.out _ hb;obtain⟨m0,m1,m2,m3,m4,m5⟩:=HCW;clear hb)))
    go_ret;exact⟨ret_bool HV.out.symm,HBW.out⟩
theorem cmayedge_shut (T:ByteArray) (lo hi tt cap:Int) (A:Option Addr) (n c:Nat) (w:World) (u tb v:Bool) (hv:v=(tb && (decide (tt=0) && T.toList.isEmpty)))
  (_KM:Hid (∀ w',Calls Tryz.prog 78 #[.int .i64 3,.string T,.int .i64 cap] w' fun e' w2=>e'= .returned (.bool u)∧Below w'.heap.size w' w2))
  (KD:Hid (∀ w',Calls Tryz.prog 79 #[.int .i64 lo,.int .i64 hi] w' fun e' w2=>e'= .returned (.bool tb)∧w'=w2)):
  Calls Tryz.prog 53 #[.agg #[.int .i64 3,.string T,.int .i64 lo,.int .i64 hi,.int .i64 tt],.agg #[.int .i64 cap,.slice A n c]] w fun r w'=>r= .returned (.bool v)∧Below w.heap.size w w':=by
 have KF:Hid (∀ w',Calls Tryz.prog 72 #[.int .i64 3] w' fun e w2=>e= .returned (.tuple #[.string ⟨wShut.toArray⟩,.int .i64 2])∧w'=w2):=Lib.hid fun w'=>cform_any 3 w'
 have bS:(⟨wShut.toArray⟩:ByteArray).toList.isEmpty=false:=by rw[toList_data];rfl
 generalize (⟨wShut.toArray⟩:ByteArray)=SW at KF bS;have HB2:Hid (∀ T U:TypeId,∀ a b:Array Value,Below w.heap.size w ((w.alloc (.cells a T)).alloc (.cells b U))):=Lib.hid fun _ _ _ _=>(one_boxP w _).trans ((one_boxP _ _).mono (one_boxP w _).size)
 cases he:T.toList.isEmpty with
 | false=>
   have HV:Hid (v=false):=Lib.hid (by rw[hv];simp[he]);clear hv;go_enter Tryz.func53,Tryz.ntmps53
   go_upto_region 2 with (go_at_call 72;go_must (((with_reducible refine(KF.out _).mono ?_));rintro e1 w1 ⟨rfl,rfl⟩))
   simp only[List.append_eq,List.cons_append,List.nil_append];go_wp2;go_ret;exact⟨ret_bool HV.out.symm,HB2.out _ _ _ _⟩
 | true=>
   cases tb with
   | false=>
     have HV:Hid (v=false):=Lib.hid (by rw[hv];simp[he]);clear hv;go_enter Tryz.func53,Tryz.ntmps53
     go_upto_region 2 with (go_at_call 72;go_must (((with_reducible refine(KF.out _).mono ?_));rintro e1 w1 ⟨rfl,rfl⟩))
     simp only[List.append_eq,List.cons_append,List.nil_append]
     go_wp2_with (first
      | (go_at_call 79;go_must (((with_reducible refine(KD.out _).mono ?_));rintro e3 w3 ⟨rfl,rfl⟩)))
     go_ret;exact⟨ret_bool HV.out.symm,HB2.out _ _ _ _⟩
   | true=>
     by_cases d3:tt=0
     ·have bd3:(tt==0)=true:=by simpa using d3
      have HV:Hid (v=true):=Lib.hid (by rw[hv];simp[he,d3]);clear hv d3;go_enter Tryz.func53,Tryz.ntmps53
      go_upto_region 2 with (go_at_call 72;go_must (((with_reducible refine(KF.out _).mono ?_));rintro e1 w1 ⟨rfl,rfl⟩))
      simp only[List.append_eq,List.cons_append,List.nil_append]
      go_wp2_with (first
       | (go_at_call 79;go_must (((with_reducible refine(KD.out _).mono ?_));rintro e3 w3 ⟨rfl,rfl⟩)))
      go_ret;exact⟨ret_bool HV.out.symm,HB2.out _ _ _ _⟩
     ·have bd3:(tt==0)=false:=by simpa using d3
      have HV:Hid (v=false):=Lib.hid (by rw[hv];simp[he,d3]);clear hv d3;go_enter Tryz.func53,Tryz.ntmps53
      go_upto_region 2 with (go_at_call 72;go_must (((with_reducible refine(KF.out _).mono ?_));rintro e1 w1 ⟨rfl,rfl⟩))
      simp only[List.append_eq,List.cons_append,List.nil_append]
      go_wp2_with (first
       | (go_at_call 79;go_must (((with_reducible refine(KD.out _).mono ?_));rintro e3 w3 ⟨rfl,rfl⟩)))
      go_ret;exact⟨ret_bool HV.out.symm,HB2.out _ _ _ _⟩
end Go.Proofs.YtdobinjbejagcaaGreatDoor
