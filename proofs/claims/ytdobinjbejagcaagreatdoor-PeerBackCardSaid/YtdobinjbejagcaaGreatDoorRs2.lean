import Derived.Test.YtdobinjbejagcaaGreatDoorPw4
import Derived.Test.YtdobinjbejagcaaGreatDoorPm6
namespace Go.Proofs.YtdobinjbejagcaaGreatDoor
open Go Go.RowKit
set_option maxRecDepth 100000
set_option maxHeartbeats 8000000
theorem cedges_eq (es fs:List EdP) (A A':Option Addr) (n n' c c':Nat) (w:World) (h:RdE5 w.heap.size w A n es) (h':RdE5 w.heap.size w A' n' fs) (hm:n≤1000000) (hm':n'≤1000000):
  Calls Tryz.prog 67 #[.slice A n c,.slice A' n' c'] w fun e w'=>e= .returned (.bool (eqAll eqEd es fs))∧Below w.heap.size w w':=by
 obtain⟨v,hv⟩:∃ v,v=eqAll eqEd es fs:=⟨_,rfl⟩;rw[←hv];by_cases hn:n=n'
 ·subst hn
  have HR:=Lib.hid h;have HR':=Lib.hid h';have HV:=Lib.hid hv;have HN:=Lib.hid h.1;have HN':=Lib.hid h'.1;clear h h' hv;go_enter Tryz.func67,Tryz.ntmps67;go_wp2
  go_loopw [5,13] (fun _ i wr=>∃ j:Nat,j≤n∧i= .int .i64 j∧es.take j=fs.take j∧Below w.heap.size w wr) (fun _ i _=>n - (intOf i).toNat)
  case atStart=>exact⟨0,by omega,rfl,rfl,Below.refl _ _⟩
  case round=>
   obtain⟨m,hm1,rfl,ht,hb⟩:=hrel;have HU:=Lib.hid hb;have HTE:=Lib.hid ht;clear ht;by_cases a2:m<n
   ·obtain⟨e,he⟩:∃ e,es[m]?=some e:=⟨_,List.getElem?_eq_getElem (by have:=HN.out;omega)⟩
    obtain⟨f,hf⟩:∃ f,fs[m]?=some f:=⟨_,List.getElem?_eq_getElem (by have:=HN'.out;omega)⟩;obtain⟨ad2,rfl,hl3,p0,p1,p2,p3,p4⟩:=((HR.out.keep hb).up hb.size).at_ he
    obtain⟨ad3,rfl,hl4,o0,o1,o2,o3,o4⟩:=((HR'.out.keep hb).up hb.size).at_ hf
    have i3:(ad2.add (m * 5)).block<wr.heap.size:=by rw[block_of_add];exact hl3
    have i4:(ad3.add (m * 5)).block<wr.heap.size:=by rw[block_of_add];exact hl4
    have hcmp:=fun W:World=>neqEd e f W
    cases hq:eqEd e f with
    | true=>
      have HY:Hid (es.take (m+1)=fs.take (m+1)):=Lib.hid (by
       obtain⟨i1,i2⟩:=List.getElem?_eq_some_iff.1 he;obtain⟨j1,j2⟩:=List.getElem?_eq_some_iff.1 hf;rw[List.take_succ_eq_append_getElem i1,List.take_succ_eq_append_getElem j1,HTE.out,i2,j2,(eqEd_iff e f).1 hq])
      rw[hq] at hcmp;simp only[Bool.not_true] at hcmp;clear hb he hf hq;go_wp2;go_quiet (fail);go_wp2
      go_roundw
      case rel=>exact⟨m+1,by omega,by go_num,HY.out,below_drewN HU.out _⟩
      case measure=>simp[intOf];omega
    | false=>
      have HF:Hid (v=false):=Lib.hid (by
       rw[HV.out]
       cases hx:eqAll eqEd es fs with
       | false=>rfl
       | true=>
         have:=(eqAll_iff eqEd_iff es fs).1 hx;subst this;rw[he] at hf;injection hf with hf
         subst hf;rw[eqEd_self] at hq
         cases hq)
      rw[hq] at hcmp;simp only[Bool.not_false] at hcmp;clear hb he hf hq;go_wp2;go_quiet (fail);go_wp2;go_ret;exact⟨ret_bool HF.out.symm,below_drewN HU.out _⟩
   ·have HY:Hid (v=true):=Lib.hid (by
     rw[HV.out];have h1:=HTE.out;rw[List.take_of_length_le (by have:=HN.out;omega),List.take_of_length_le (by have:=HN'.out;omega)] at h1;exact(eqAll_iff eqEd_iff es fs).2 h1)
    clear hb;go_wp2;go_ret;exact⟨ret_bool HY.out.symm,HU.out⟩
 ·have HF:Hid (v=false):=Lib.hid (by
   rw[hv]
   cases hx:eqAll eqEd es fs with
   | false=>rfl
   | true=>
     have:=(eqAll_iff eqEd_iff es fs).1 hx;subst this;exact absurd (h.1.trans h'.1.symm) hn)
  have b4:((n:Int) != (n':Int))=true:=by simp;omega
  have b5:(n != n')=true:=by simpa using hn
  clear h h' hv hn;go_enter Tryz.func67,Tryz.ntmps67;go_wp2;go_ret;exact⟨ret_bool HF.out.symm,Below.refl _ _⟩
abbrev aggX (x:PlP) (A:Option Addr) (c:Nat):Value:= .agg #[.string ⟨x.name.toArray⟩,.bool x.echo,.slice A x.edges.length c]
theorem cplace_eq (x y:PlP) (A A':Option Addr) (c c':Nat) (w:World) (h:RdE5 w.heap.size w A x.edges.length x.edges) (h':RdE5 w.heap.size w A' y.edges.length y.edges) (hm:x.edges.length≤1000000) (hm':y.edges.length≤1000000):
  Calls Tryz.prog 41 #[aggX x A c,aggX y A' c'] w fun e w'=>e= .returned (.bool (eqPl x y))∧Below w.heap.size w w':=by
 obtain⟨v,hv⟩:∃ v,v=eqPl x y:=⟨_,rfl⟩;rw[←hv];have hv:v=(decide (x.name=y.name) && (decide (x.echo=y.echo) && eqAll eqEd x.edges y.edges)):=hv;obtain⟨TX,hTX⟩:∃ T:ByteArray,T=⟨x.name.toArray⟩:=⟨_,rfl⟩;obtain⟨TY,hTY⟩:∃ T:ByteArray,T=⟨y.name.toArray⟩:=⟨_,rfl⟩;have K:Hid (∀ W,Below w.heap.size w W→Calls Tryz.prog 67 #[.slice A x.edges.length c,.slice A' y.edges.length c'] W fun e w'=>e= .returned (.bool (eqAll eqEd x.edges y.edges))∧Below W.heap.size W w'):=Lib.hid fun W hb=>cedges_eq x.edges y.edges A A' _ _ c c' W ((h.keep hb).up hb.size) ((h'.keep hb).up hb.size) hm hm'
 have hb2:∀ T U:TypeId,∀ a b:Array Value,Below w.heap.size w ((w.alloc (.cells a T)).alloc (.cells b U)):=fun T U a b=>(one_boxP w _).trans ((one_boxP _ _).mono (one_boxP w _).size)
 have HB2:=Lib.hid hb2;clear hb2;show Calls _ _ #[.agg #[.string ⟨x.name.toArray⟩,.bool x.echo,.slice A x.edges.length c],.agg #[.string ⟨y.name.toArray⟩,.bool y.echo,.slice A' y.edges.length c']] _ _;rw[←hTX,←hTY];generalize x.edges.length=n at K ⊢;generalize y.edges.length=n' at K ⊢;generalize eqAll eqEd x.edges y.edges=u at K hv;generalize x.echo=ex at hv ⊢;generalize y.echo=ey at hv ⊢;clear h h' hm hm';by_cases e1:TX=TY
 ·have e1':x.name=y.name:=by rw[hTX,hTY] at e1;have:=congrArg (fun b:ByteArray=>b.data.toList) e1;exact this
  by_cases e2:ex=ey
  ·have HV:Hid (v=u):=Lib.hid (by rw[hv,decide_eq_true e1',decide_eq_true e2];rfl)
   subst e1 e2;have b2:(TX.toList==TX.toList)=true:=by simp
   have b3:(ex==ex)=true:=by simp
   clear hv hTX hTY e1';go_enter Tryz.func41,Tryz.ntmps41;go_wp2_with (go_at_call 67;go_must (((with_reducible refine(K.out _ (HB2.out _ _ _ _)).mono ?_));rintro e w1 ⟨rfl,hb⟩;have HB:=Lib.hid ((HB2.out 42 42 _ _).trans (hb.mono (HB2.out _ _ _ _).size));clear hb));go_ret;exact⟨ret_bool HV.out.symm,HB.out⟩
  ·have HV:Hid (v=false):=Lib.hid (by rw[hv,decide_eq_true e1',decide_eq_false e2];rfl)
   subst e1;have b2:(TX.toList==TX.toList)=true:=by simp
   have b3:(ex==ey)=false:=by simpa using e2
   clear hv hTX hTY e1' e2;go_enter Tryz.func41,Tryz.ntmps41;go_wp2;go_ret;exact⟨ret_bool HV.out.symm,HB2.out _ _ _ _⟩
 ·have e1':¬ x.name=y.name:=fun e=>e1 (by rw[hTX,hTY,e])
  have HV:Hid (v=false):=Lib.hid (by rw[hv,decide_eq_false e1'];rfl);have b2:(TX.toList==TY.toList)=false:=toListP_ne e1;clear hv hTX hTY e1' e1;go_enter Tryz.func41,Tryz.ntmps41;go_wp2;go_ret;exact⟨ret_bool HV.out.symm,HB2.out _ _ _ _⟩
theorem two_boxesP (w:World) (o1 o2:Obj):Below w.heap.size w ((w.alloc o1).alloc o2):=(one_boxP w o1).trans ((one_boxP _ o2).mono (one_boxP w o1).size)
theorem cplaces_eq (xs ys:List PlP) (A A':Option Addr) (m m2 c c':Nat) (w:World) (h:RdX w.heap.size w A m xs) (h':RdX w.heap.size w A' m2 ys) (hm:m≤1000000) (he:∀ x∈xs,x.edges.length≤1000000) (he':∀ x∈ys,x.edges.length≤1000000):
  Calls Tryz.prog 40 #[.slice A m c,.slice A' m2 c',.func (.func 41) #[] #[]] w fun e w'=>e= .returned (.bool (eqAll eqPl xs ys))∧Below w.heap.size w w':=by
 obtain⟨v,hv⟩:∃ v,v=eqAll eqPl xs ys:=⟨_,rfl⟩;rw[←hv];have HV:=Lib.hid hv;have HK:=Lib.hid h;have HK':=Lib.hid h';have HM:=Lib.hid h.1;have HM':=Lib.hid h'.1;have HE:=Lib.hid he;have HE':=Lib.hid he';clear hv h h' he he';by_cases f6:m=m2
 ·have g6:((m:Int) != (m2:Int))=false:=by simp[f6]
  have g7:(m != m2)=false:=by simp[f6]
  subst f6;go_enter Tryz.func40,Tryz.ntmps40;go_wp2
  go_loopw [17] (fun i wr=>∃ j:Nat,j≤m∧i= .int .i64 j∧xs.take j=ys.take j∧Below w.heap.size w wr) (fun i _=>m - (intOf i).toNat)
  case atStart=>exact⟨0,by omega,rfl,rfl,Below.refl _ _⟩
  case round=>
   obtain⟨j,hj,rfl,ht,hb⟩:=hrel;have HB:=Lib.hid hb;have HT:=Lib.hid ht;clear ht;by_cases a:j<m
   ·obtain⟨x,hx⟩:∃ x,xs[j]?=some x:=⟨_,List.getElem?_eq_getElem (by have:=HM.out;omega)⟩
    obtain⟨y,hy⟩:∃ y,ys[j]?=some y:=⟨_,List.getElem?_eq_getElem (by have:=HM'.out;omega)⟩;obtain⟨ad,Ax,cx,rfl,hl1,⟨c0,c1,c2⟩,hrx⟩:=(HK.out.next hb).at_ hx
    obtain⟨ad',Ay,cy,rfl,hl2,⟨d0,d1,d2⟩,hry⟩:=(HK'.out.next hb).at_ hy
    have hbt:(ad.add (j * 3)).block<wr.heap.size:=by rw[block_of_add];exact hl1
    have hbt':(ad'.add (j * 3)).block<wr.heap.size:=by rw[block_of_add];exact hl2
    have HR:=Lib.hid hx;have HR':=Lib.hid hy
    have HKC:Hid (∀ o1 o2,Calls Tryz.prog 41 #[.agg #[.string ⟨x.name.toArray⟩,.bool x.echo,.slice Ax x.edges.length cx],.agg #[.string ⟨y.name.toArray⟩,.bool y.echo,.slice Ay y.edges.length cy]] ((wr.alloc o1).alloc o2) fun e w'=>e= .returned (.bool (eqPl x y))∧Below wr.heap.size wr w'):=Lib.hid fun o1 o2=>
     (cplace_eq x y Ax Ay cx cy _ ((hrx.keep (two_boxesP wr o1 o2)).up (two_boxesP wr o1 o2).size) ((hry.keep (two_boxesP wr o1 o2)).up (two_boxesP wr o1 o2).size) (HE.out x (List.mem_of_getElem? hx)) (HE'.out y (List.mem_of_getElem? hy))).mono fun e w' ⟨he,h2⟩=>⟨he,(two_boxesP wr o1 o2).trans (h2.mono (two_boxesP wr o1 o2).size)⟩
    obtain⟨v2,hv2⟩:∃ v2,v2=eqPl x y:=⟨_,rfl⟩;rw[←hv2] at HKC;have HV2:=Lib.hid hv2;obtain⟨M1,hM1⟩:∃ M:ByteArray,M=⟨x.name.toArray⟩:=⟨_,rfl⟩;obtain⟨M3,hM3⟩:∃ M:ByteArray,M=⟨y.name.toArray⟩:=⟨_,rfl⟩;rw[←hM1,←hM3] at HKC;rw[←hM1] at c0;rw[←hM3] at d0;generalize x.edges.length=l1 at HKC c2;generalize y.edges.length=l2 at HKC d2;generalize x.echo=ex at HKC c1;generalize y.echo=ey at HKC d1;clear hM1 hM3 hb hl1 hl2 hx hy hrx hry hv2
    cases v2 with
    | true=>
      have HX:Hid (xs.take (j+1)=ys.take (j+1)):=Lib.hid (by
       obtain⟨i1,i2⟩:=List.getElem?_eq_some_iff.1 HR.out;obtain⟨j1,j2⟩:=List.getElem?_eq_some_iff.1 HR'.out;rw[List.take_succ_eq_append_getElem i1,List.take_succ_eq_append_getElem j1,HT.out,i2,j2,(eqPl_iff x y).1 HV2.out.symm])
      go_wp2_with (go_at_call 41;go_must ((with_reducible refine(HKC.out _ _).mono ?_);rintro e w4 ⟨rfl,hb4⟩))
      go_roundw
      case rel=>exact⟨j+1,by omega,by go_num,HX.out,HB.out.trans (hb4.mono HB.out.size)⟩
      case measure=>simp[intOf];omega
    | false=>
      have HX2:Hid (v=false):=Lib.hid (by
       rw[HV.out]
       cases hq:eqAll eqPl xs ys with
       | false=>rfl
       | true=>
         have:=(eqAll_iff eqPl_iff xs ys).1 hq;subst this;have h1:=HR.out.symm.trans HR'.out;injection h1 with h1
         have h2:=HV2.out;rw[h1,eqPl_self] at h2
         cases h2)
      go_wp2_with (go_at_call 41;go_must ((with_reducible refine(HKC.out _ _).mono ?_);rintro e w4 ⟨rfl,hb4⟩));go_ret;exact⟨ret_bool HX2.out.symm,HB.out.trans (hb4.mono HB.out.size)⟩
   ·have HX2:Hid (v=true):=Lib.hid (by
     rw[HV.out];have:=HT.out;rw[List.take_of_length_le (by have:=HM.out;omega),List.take_of_length_le (by have:=HM'.out;omega)] at this;exact(eqAll_iff eqPl_iff xs ys).2 this)
    clear hb;go_wp2;go_ret;exact⟨ret_bool HX2.out.symm,HB.out⟩
 ·have HX:Hid (v=false):=Lib.hid (by
   rw[HV.out]
   cases hq:eqAll eqPl xs ys with
   | false=>rfl
   | true=>
     have:=(eqAll_iff eqPl_iff xs ys).1 hq;subst this;exact absurd (HM.out.trans HM'.out.symm) f6)
  have g6:((m:Int) != (m2:Int))=true:=by simp;omega
  have g7:(m != m2)=true:=by simp[f6]
  clear f6;go_enter Tryz.func40,Tryz.ntmps40;go_wp2;go_ret;exact⟨ret_bool HX.out.symm,Below.refl _ _⟩
theorem csame_any:SamK:=by
 intro p q A B c d w h h' hf hf';have hpm:p.places.length≤1000000:=hf.places;have K:Hid (∀ W,Below w.heap.size w W→Calls Tryz.prog 40 #[.slice A p.places.length c,.slice B q.places.length d,.func (.func 41) #[] #[]] W fun e w'=>e= .returned (.bool (eqAll eqPl p.places q.places))∧Below W.heap.size W w'):=Lib.hid fun W hb=>cplaces_eq p.places q.places A B _ _ c d W (h.next hb) (h'.next hb) hpm hf.edges hf'.edges
 obtain⟨v,hv⟩:∃ v,v=eqPe p q:=⟨_,rfl⟩;rw[←hv];have hv:v=(decide (p.cap=q.cap) && eqAll eqPl p.places q.places):=hv;show Calls _ _ #[.agg #[.int .i64 p.cap,.slice A p.places.length c],.agg #[.int .i64 q.cap,.slice B q.places.length d]] _ _;generalize p.places.length=n at K ⊢;generalize q.places.length=n' at K ⊢;generalize eqAll eqPl p.places q.places=u at K hv;generalize p.cap=cp at hv ⊢;generalize q.cap=cq at hv ⊢;have HB2:Hid (∀ T U:TypeId,∀ a b:Array Value,Below w.heap.size w ((w.alloc (.cells a T)).alloc (.cells b U))):=Lib.hid fun _ _ _ _=>two_boxesP _ _ _
 clear h h' hf hf' hpm;by_cases e1:cp=cq
 ·have HV:Hid (v=u):=Lib.hid (by rw[hv,decide_eq_true e1];rfl)
  subst e1;have b1:(cp==cp)=true:=by simp
  clear hv;go_enter Tryz.func15,Tryz.ntmps15;go_wp2_with (go_at_call 40;go_must (((with_reducible refine(K.out _ (HB2.out _ _ _ _)).mono ?_));rintro e w1 ⟨rfl,hb⟩;have HB:=Lib.hid ((HB2.out 24 24 _ _).trans (hb.mono (HB2.out _ _ _ _).size));clear hb));go_ret;exact⟨ret_bool HV.out.symm,HB.out⟩
 ·have HV:Hid (v=false):=Lib.hid (by rw[hv,decide_eq_false e1];rfl)
  have b1:(cp==cq)=false:=by simpa using e1
  clear hv e1;go_enter Tryz.func15,Tryz.ntmps15;go_wp2;go_ret;exact⟨ret_bool HV.out.symm,HB2.out _ _ _ _⟩
end Go.Proofs.YtdobinjbejagcaaGreatDoor
