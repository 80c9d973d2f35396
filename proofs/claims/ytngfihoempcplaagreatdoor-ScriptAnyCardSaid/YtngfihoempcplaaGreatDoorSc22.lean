import Derived.Test.YtngfihoempcplaaGreatDoorCf
import Derived.Test.YtngfihoempcplaaGreatDoorSc9
import Derived.Deep.RegionHeld3
import Derived.Test.YtngfihoempcplaaGreatDoorEx30
import Derived.Deep.AppendLies
namespace Go.Proofs.YtngfihoempcplaaGreatDoor
open Go Go.RowKit
set_option maxRecDepth 100000
set_option maxHeartbeats 4000000
theorem z30 {α:Type} {o k:Nat} {F:Nat→Rz α} (ho:o=0∨o=1∨o=8) (h:o=0→F k= .bad k false):(gate o k F).at=k∧(gate o k F).err=(if o=0 then 1 else o)∧∀ y j,gate o k F≠ .ok y j:=by
 rcases ho with rfl | ho
 ·rw[z0f,h rfl]
  exact⟨rfl,rfl,fun _ _ e=>by cases e⟩
 ·rw[if_neg (by omega)];exact⟨(z09 ho).2,(z09 ho).1,fun _ _=>z4w (by omega)⟩
theorem x4n {l:List Tok} {k j:Nat} (hj:j<3) (h:∀ m,m<j→isO l 5 (flagB m) k 0=false) (ht:isO l 5 (flagB j) k 0=true):patF l k=(plainF l (k+1)).then fun s i=> .ok ((j:Int),s) i:=by
 unfold patF;have e:j=0∨j=1∨j=2:=by omega
 rcases e with rfl | rfl | rfl
 ·rw[if_pos (show isT l 5 [101,120] k=true from ht)];rfl
 ·rw[if_neg (by rw[show isT l 5 [101,120] k=false from h 0 (by omega)];decide),if_pos (show isT l 5 [103,108] k=true from ht)];rfl
 ·rw[if_neg (by rw[show isT l 5 [101,120] k=false from h 0 (by omega)];decide),if_neg (by rw[show isT l 5 [103,108] k=false from h 1 (by omega)];decide),if_pos (show isT l 5 [114,101] k=true from ht)];rfl
theorem y9l {l:List Tok} {k:Nat} (h:∀ m,m<3→isO l 5 (flagB m) k 0=false):patF l k= .bad k false:=by
 unfold patF;rw[if_neg (by rw[show isT l 5 [101,120] k=false from h 0 (by omega)];decide),if_neg (by rw[show isT l 5 [103,108] k=false from h 1 (by omega)];decide),if_neg (by rw[show isT l 5 [114,101] k=false from h 2 (by omega)];decide)]
abbrev PlainC (b:Nat) (A:OA) (n c:Nat) (l:List Tok) (k o:Nat) (R:Rz Bs):Prop:=Hid (∀ w',RdS b w' A n c l k o→Cz 157 #[pP b] w' fun e w2=>
 ∃ s:Bs,e= .returned (.string ⟨s.toArray⟩)∧StepS b w' A n c l R.at R.err w2∧∀ y j,R= .ok y j→y=s)
def PatS (b:Nat) (w:World) (A:OA) (n c:Nat) (l:List Tok) (R:Rz (Int × Bs)) (e:Ending) (w':World):Prop:=
 ∃ (z:Int) (s:Bs),e= .returned (.agg #[z,s])∧StepS b w A n c l R.at R.err w'∧∀ y j,R= .ok y j→y=(z,s)
abbrev zeroP:List Value:=[oZ,oS]
theorem Cx.put2 {b:Nat} {w W:World} {A:OA} {n c:Nat} {l:List Tok} {k o:Nat} {bs:List (Nat × List Value)} (h:Cx b w W A n c l k o bs) (i q:Nat) (u0 u1:Value) (hi:bs[i]?=some (q,[u0,u1])) (v0 v1:Value):Cx b w ((W.setCell ⟨q,0,none⟩ v0).setCell ⟨q,1,none⟩ v1) A n c l k o (bs.set i (q,[v0,v1])):=by
 have hl:=(List.getElem?_eq_some_iff.1 hi).1;have e:∀ x:Nat × List Value,(bs.set i x)[i]?=some x:=fun x=>List.getElem?_set_self hl
 have h0:=h.put i q _ hi 0 (by simp) v0;have h1:=h0.put i q _ (e _) 1 (by simp) v1;rw[List.set_set] at h1;exact h1
theorem y5g (b:Nat) (w:World) (A:OA) (n c:Nat) (l:List Tok) (k o:Nat) (h:RdS b w A n c l k o):
  Cz 132 #[pP b] w (PatS b w A n c l (gate o k (patF l))):=by
 have H:=zz (Cx.start h);have hoks:=h.oks;have HFit:=zz h.fit;obtain⟨R,hR⟩:∃ R,R=gate o k (patF l):=⟨_,rfl⟩;rw[←hR];have HR:=zz hR;have HO:=zz hoks;clear hR h hoks;unfold PatS;go_enter Tryz.func132,Tryz.ntmps132;go_wp2
 go_loopw [3] (fun i wr=>∃ j:Nat,i= .int .i64 j∧j≤3∧(∀ m,m<j→isO l 5 (flagB m) k o=false)∧Cx b w wr A n c l k o [(w.heap.size,zeroP)]) (fun i _=>3 - (intOf i).toNat)
 case atStart=>exact⟨0,rfl,by omega,fun m h=>by omega,H.out.alloc 63 zeroP (by simp)⟩
 case round=>
  obtain⟨j,rfl,h2,h3,hc⟩:=hrel;have H3:=zz h3;have HC:=zz hc;clear h3 hc;by_cases a:j<3
  ·have a':(j:Int)≤2:=by omega
   have KF:Hid (∀ w',Cz 138 #[j] w' fun e w2=>e= .returned (.string ⟨(flagB j).toArray⟩)∧w'=w2):=zz fun w'=>z3y j a w'
   have hfl:(⟨(flagB j).toArray⟩:BA).data.toList=flagB j:=rfl
   cases hv:isO l 5 (flagB j) k o with
   | true=>
     have hkl:=(z16 (by decide) hv);obtain⟨ho,hkt⟩:=hkl;subst ho;have KT:=z4n (b:=b) (A:=A) (n:=n) (c:=c) (W:=⟨(flagB j).toArray⟩) (by decide) hv;have KP:PlainC b A n c l (k+1) 0 (plainF l (k+1)):=zz fun w' h'=>y6j b w' A n c l (k+1) 0 h'
     have HX:Hid (R=(plainF l (k+1)).then fun s i=> .ok ((j:Int),s) i):=zz (by rw[HR.out,z0f,x4n a H3.out hv]);generalize plainF l (k+1)=R1 at KP HX;generalize (⟨(flagB j).toArray⟩:BA)=S at KF KT;clear hv hfl hkt;go_wp2_with (first | (go_at_call 138;go_must ((with_reducible refine(KF.out _).mono ?_);rintro e w1 ⟨rfl,rfl⟩)) | (go_at_call 61;go_must ((with_reducible refine(KT.out _ HC.out.rd).mono ?_);rintro e w1 ⟨rfl,hs1⟩;have HD:=zz (HC.out.call hs1);clear hs1)) | (go_at_call 157;go_must ((with_reducible refine(KP.out _ HD.out.rd).mono ?_);rintro e w2 ⟨s,rfl,hs2,hv2⟩;have HE:=zz (HD.out.call hs2);have HV:=zz hv2;obtain⟨q0,q1,q2⟩:=HE.out.one;obtain⟨g0,g1⟩:=(HE.out.box 0 w.heap.size zeroP rfl).all2;obtain⟨j0,j1⟩:=(HE.out.box 0 w.heap.size zeroP rfl).fre2;clear hs2 hv2)));have HG:=HE.out.put2 0 w.heap.size _ _ rfl (.int .i64 j) (.string ⟨s.toArray⟩);obtain⟨r0,r1⟩:=(HG.box 0 w.heap.size _ rfl).all2;refine bodyPost_ret (v:= .agg #[j,s]) (by simp[results,Tryz.results132,go_sem,r0,r1]) rfl ⟨j,s,rfl,?_⟩;have hm:=z3g R1 (fun s=>((j:Int),s));rw[HX.out,hm.1,hm.2.1];exact⟨HG.step,hm.2.2 s HV.out⟩
   | false=>
     have KT:=z4o (b:=b) (A:=A) (n:=n) (c:=c) (W:=⟨(flagB j).toArray⟩) (by decide) hv
     have HX:Hid (∀ m,m<j+1→isO l 5 (flagB m) k o=false):=zz fun m hm=>by
      by_cases c:m<j
      ·exact H3.out m c
      ·have:m=j:=by omega
       subst this;exact hv
     generalize (⟨(flagB j).toArray⟩:BA)=S at KF KT;clear hv hfl;go_wp2_with (first | (go_at_call 138;go_must ((with_reducible refine(KF.out _).mono ?_);rintro e w1 ⟨rfl,rfl⟩)) | (go_at_call 61;go_must ((with_reducible refine(KT.out _ HC.out.rd).mono ?_);rintro e w1 ⟨rfl,hs1⟩;have HD:=zz (HC.out.call hs1);clear hs1)))
     go_roundw
     case rel=>exact⟨j+1,by go_num,by omega,HX.out,HD.out⟩
     case measure=>simp[intOf];omega
  ·have h3:∀ m,m<3→isO l 5 (flagB m) k o=false:=fun m hm=>H3.out m (by omega)
   have HX:Hid (R.at=k∧R.err=(if o=0 then 1 else o)∧∀ y j,R≠ .ok y j):=zz (by rw[HR.out];exact z30 HO.out fun e=>by subst e;exact y9l h3);have KR:=refC1 b A n c l k o rfl;generalize (if o=0 then 1 else o)=o2 at KR HX;clear h3;go_wp2_with (first | (go_at_call 17;go_must ((with_reducible refine(KR.out _ HC.out.rd).mono ?_);rintro e w2 ⟨rfl,hs2⟩;have HE:=zz (HC.out.call hs2);obtain⟨q0,q1,q2⟩:=HE.out.one;obtain⟨g0,g1⟩:=(HE.out.box 0 w.heap.size zeroP rfl).all2;obtain⟨j0,j1⟩:=(HE.out.box 0 w.heap.size zeroP rfl).fre2;clear hs2)));have HG:=HE.out.put2 0 w.heap.size _ _ rfl (.int .i64 0) oS;obtain⟨r0,r1⟩:=(HG.box 0 w.heap.size _ rfl).all2;refine bodyPost_ret (v:= .agg #[oZ,oS]) (by simp[results,Tryz.results132,go_sem,r0,r1]) rfl ⟨0,[],rfl,?_⟩;rw[HX.out.1,HX.out.2.1];exact⟨HG.step,fun y j e=>absurd e (HX.out.2.2 y j)⟩
theorem y7r {l:List Tok} {told:Bool} {k j:Nat} (hj:2≤j∧j≤4) (h:∀ m,2≤m→m<j→(m=3∨told=false)→isO l 1 (rwB m) k 0=false) (hg:j=3∨told=false) (ht:isO l 1 (rwB j) k 0=true):rwordF l told k= .ok (j:Int) (k+1):=by
 unfold rwordF;have e:j=2∨j=3∨j=4:=by omega
 rcases e with rfl | rfl | rfl
 ·rw[if_pos ⟨hg.resolve_left (by decide),ht⟩];rfl
 ·rw[if_neg (fun e=>by have:=h 2 (by omega) (by omega) (.inr e.1);rw[show isT l 1 [116,105,109,101,111,117,116] k=false from this] at e;exact absurd e.2 (by decide)),if_pos (show isT l 1 [101,111,102] k=true from ht)];rfl
 ·have hg:=hg.resolve_left (by decide)
  rw[if_neg (fun e=>by have:=h 2 (by omega) (by omega) (.inr e.1);rw[show isT l 1 [116,105,109,101,111,117,116] k=false from this] at e;exact absurd e.2 (by decide)),if_neg (fun e=>by have:=h 3 (by omega) (by omega) (.inl rfl);rw[show isT l 1 [101,111,102] k=false from this] at e;cases e),if_pos ⟨hg,ht⟩];rfl
theorem y3n {l:List Tok} {told:Bool} {k:Nat} (h:∀ m,2≤m→m<5→(m=3∨told=false)→isO l 1 (rwB m) k 0=false):rwordF l told k= .bad k false:=by
 unfold rwordF;rw[if_neg (fun e=>by have:=h 2 (by omega) (by omega) (.inr e.1);rw[show isT l 1 [116,105,109,101,111,117,116] k=false from this] at e;exact absurd e.2 (by decide)),if_neg (fun e=>by have:=h 3 (by omega) (by omega) (.inl rfl);rw[show isT l 1 [101,111,102] k=false from this] at e;cases e),if_neg (fun e=>by have:=h 4 (by omega) (by omega) (.inr e.1);rw[show isT l 1 [100,101,102,97,117,108,116] k=false from this] at e;exact absurd e.2 (by decide))]
theorem z8p (told:Bool) (b:Nat) (w:World) (A:OA) (n c:Nat) (l:List Tok) (k o:Nat) (h:RdS b w A n c l k o):
  Cz 133 #[pP b,.bool told] w (NumS b w A n c l (gate o k (rwordF l told))):=by
 have H:=zz (Cx.start h);obtain⟨R,hR⟩:∃ R,R=gate o k (rwordF l told):=⟨_,rfl⟩;rw[←hR];have HR:=zz hR;have HO:=zz h.oks;clear hR h;unfold NumS;go_enter Tryz.func133,Tryz.ntmps133;go_wp2
 go_loopw [5] (fun i wr=>∃ j:Nat,i= .int .i64 j∧2≤j∧j≤5∧(∀ m,2≤m→m<j→(m=3∨told=false)→isO l 1 (rwB m) k o=false)∧Cx b w wr A n c l k o []) (fun i _=>5 - (intOf i).toNat)
 case atStart=>exact⟨2,rfl,by omega,by omega,fun m h1 h2=>by omega,H.out⟩
 case round=>
  obtain⟨j,rfl,h1,h2,h3,hc⟩:=hrel;have H3:=zz h3;have HC:=zz hc;clear h3 hc;by_cases a:j≤4
  ·have a':(j:Int)≤4:=by omega
   have KF:Hid (∀ w',Cz 144 #[j] w' fun e w2=>e= .returned (.string ⟨(rwB j).toArray⟩)∧w'=w2):=zz fun w'=>y2b j ⟨h1,a⟩ w'
   by_cases hg:j=3∨told=false
   ·cases hv:isO l 1 (rwB j) k o with
    | true=>
      obtain⟨ho,hkt⟩:=z16 (by decide) hv;subst ho;have KT:=z4n (b:=b) (A:=A) (n:=n) (c:=c) (W:=⟨(rwB j).toArray⟩) (by decide) hv;have HX:Hid (R= .ok (j:Int) (k+1)):=zz (by rw[HR.out,z0f,y7r ⟨h1,a⟩ H3.out hg hv]);generalize (⟨(rwB j).toArray⟩:BA)=S at KF KT;clear hv hkt;by_cases j3:j=3
      ·have b3:((j:Int)==3)=true:=by simp;omega
       have b4:(j==3)=true:=by simp;omega
       have J3:=zz j3;clear j3;go_wp2_with (first | (go_at_call 144;go_must ((with_reducible refine(KF.out _).mono ?_);rintro e w1 ⟨rfl,rfl⟩)) | (go_at_call 61;go_must ((with_reducible refine(KT.out _ HC.out.rd).mono ?_);rintro e w1 ⟨rfl,hs1⟩;have HD:=zz (HC.out.call hs1);clear hs1)));go_ret;rw[HX.out];exact⟨_,rfl,HD.out.step,fun y j e=>by injection e with e;exact e.symm⟩
      ·have ht:=hg.resolve_left j3
       subst ht;have b3:((j:Int)==3)=false:=by simp;omega
       have b4:(j==3)=false:=by simp;omega
       clear j3;go_wp2_with (first | (go_at_call 144;go_must ((with_reducible refine(KF.out _).mono ?_);rintro e w1 ⟨rfl,rfl⟩)) | (go_at_call 61;go_must ((with_reducible refine(KT.out _ HC.out.rd).mono ?_);rintro e w1 ⟨rfl,hs1⟩;have HD:=zz (HC.out.call hs1);clear hs1)));go_ret;rw[HX.out];exact⟨_,rfl,HD.out.step,fun y j e=>by injection e with e;exact e.symm⟩
    | false=>
      have KT:=z4o (b:=b) (A:=A) (n:=n) (c:=c) (W:=⟨(rwB j).toArray⟩) (by decide) hv
      have HX:Hid (∀ m,2≤m→m<j+1→(m=3∨told=false)→isO l 1 (rwB m) k o=false):=zz fun m hm0 hm hmg=>by
       by_cases c:m<j
       ·exact H3.out m hm0 c hmg
       ·have:m=j:=by omega
        subst this;exact hv
      generalize (⟨(rwB j).toArray⟩:BA)=S at KF KT;clear hv;by_cases j3:j=3
      ·have b3:((j:Int)==3)=true:=by simp;omega
       have b4:(j==3)=true:=by simp;omega
       have J3:=zz j3;clear j3;go_wp2_with (first | (go_at_call 144;go_must ((with_reducible refine(KF.out _).mono ?_);rintro e w1 ⟨rfl,rfl⟩)) | (go_at_call 61;go_must ((with_reducible refine(KT.out _ HC.out.rd).mono ?_);rintro e w1 ⟨rfl,hs1⟩;have HD:=zz (HC.out.call hs1);clear hs1)))
       go_roundw
       case rel=>exact⟨j+1,by go_num,by omega,by omega,HX.out,HD.out⟩
       case measure=>simp[intOf];omega
      ·have ht:=hg.resolve_left j3
       subst ht;have b3:((j:Int)==3)=false:=by simp;omega
       have b4:(j==3)=false:=by simp;omega
       clear j3;go_wp2_with (first | (go_at_call 144;go_must ((with_reducible refine(KF.out _).mono ?_);rintro e w1 ⟨rfl,rfl⟩)) | (go_at_call 61;go_must ((with_reducible refine(KT.out _ HC.out.rd).mono ?_);rintro e w1 ⟨rfl,hs1⟩;have HD:=zz (HC.out.call hs1);clear hs1)))
       go_roundw
       case rel=>exact⟨j+1,by go_num,by omega,by omega,HX.out,HD.out⟩
       case measure=>simp[intOf];omega
   ·have hj3:¬ j=3:=fun e=>hg (.inl e)
    have ht:told=true:=by
     cases told with
     | true=>rfl
     | false=>exact absurd (.inr rfl) hg
    have HX:Hid (∀ m,2≤m→m<j+1→(m=3∨told=false)→isO l 1 (rwB m) k o=false):=zz fun m hm0 hm hmg=>by
     by_cases c:m<j
     ·exact H3.out m hm0 c hmg
     ·have:m=j:=by omega
      subst this;exact absurd hmg hg
    subst ht;have b3:((j:Int)==3)=false:=by simp;omega
    have b4:(j==3)=false:=by simp;omega
    clear hg hj3;go_wp2
    go_roundw
    case rel=>exact⟨j+1,by go_num,by omega,by omega,HX.out,HC.out⟩
    case measure=>simp[intOf];omega
  ·have h3:∀ m,2≤m→m<5→(m=3∨told=false)→isO l 1 (rwB m) k o=false:=fun m hm0 hm=>H3.out m hm0 (by omega)
   have HX:Hid (R.at=k∧R.err=(if o=0 then 1 else o)∧∀ y j,R≠ .ok y j):=zz (by rw[HR.out];exact z30 HO.out fun e=>by subst e;exact y3n h3);have KR:=refC1 b A n c l k o rfl;generalize (if o=0 then 1 else o)=o2 at KR HX;clear h3;go_wp2_with (first | (go_at_call 17;go_must ((with_reducible refine(KR.out _ HC.out.rd).mono ?_);rintro e w2 ⟨rfl,hs2⟩;have HE:=zz (HC.out.call hs2);clear hs2)));go_ret;rw[HX.out.1,HX.out.2.1];exact⟨0,rfl,HE.out.step,fun y j e=>absurd e (HX.out.2.2 y j)⟩
theorem z3j {l:List Tok} {k:Nat} (hk:k≤l.length):RdE l (.some 1) k 0 (exR l k):=by
 have h:=y7g l k hk;unfold exR;rw[dif_pos h];exact h.choose_spec
theorem y1q {w:Bs} (h:isName w=true):w.length≤8∧w≠[]:=by
 unfold isName at h;simp at h;refine⟨?_,h.1⟩;rw[←h.2];exact(z3f w).2
theorem y0u {w:Bs} (h:isWordL w=true):w.length≤14:=by
 cases w with
 | nil=>exact Nat.zero_le _
 | cons c r=>
   unfold isWordL at h;simp at h;simp;omega
theorem z68 {t:Tok} (h:okT t=true):t.word.length≤200:=by
 unfold okT at h
 split at h
 ·simp at h;rw[h.1.1];exact Nat.zero_le _
 ·split at h
  ·simp at h;rw[h.1.1];exact Nat.zero_le _
  ·simp at h
   have h:=h.1.1;unfold mayW at h
   split at h
   ·have:=y0u h;omega
   ·split at h
    ·unfold isSignL at h
     simp[sgns] at h
     rcases h with h | h | h | h | h | h | h | h | h | h | h | h | h | h | h | h | h | h <;> (rw[h];decide)
    ·split at h
     ·unfold isFlagL at h
      simp at h
      rcases h with h | h | h | h <;> (rw[h];decide)
     ·split at h
      ·have:=(y1q h).1;omega
      ·cases h
def CondS (b:Nat) (w:World) (A:OA) (n c:Nat) (l:List Tok) (R:Rz Ex) (e:Ending) (w':World):Prop:=
 ∃ (x:Ex) (A':OA) (c':Nat),e= .returned (.agg #[x.kind,x.n,x.name,x.op,.slice A' x.kids.length c'])∧StepS b w A n c l R.at R.err w'∧∀ y j,R= .ok y j→y=x∧KidsX (FrX w.heap.size w'.heap.size) w' A' x
abbrev zeroXs:List Value:=[oZ,oZ,oS,oS,()]
abbrev NeedC (b:Nat) (A:OA) (n c:Nat) (l:List Tok) (kd:Int) (W:BA) (k o j o2:Nat):Prop:=Hid (∀ w',RdS b w' A n c l k o→Cz 100 #[pP b,kd,W] w' fun e w2=>e= .returned (.tuple #[])∧StepS b w' A n c l j o2 w2)
theorem needC (b:Nat) (A:OA) (n c:Nat) (l:List Tok) (kd:Int) (hkd:kd≠0) (W:BA) (k o:Nat) {j o2:Nat} (h1:(gate o k (needF l kd W.data.toList)).at=j) (h2:(gate o k (needF l kd W.data.toList)).err=o2):NeedC b A n c l kd W k o j o2:=zz fun w' h'=>by subst h1 h2;exact y96 kd hkd W b w' A n c l k o h'
theorem z6g {l:List Tok} {kd:Int} {s:Bs} {k:Nat} (h:isO l kd s k 0=true):gate 0 k (needF l kd s)= .ok () (k+1):=by rw[z0f];unfold needF;rw[if_pos (show isT l kd s k=true from h)]
theorem z90 {l:List Tok} {kd:Int} {s:Bs} {k o:Nat} (ho:o=0∨o=1∨o=8) (h:isO l kd s k o=false):(gate o k (needF l kd s)).at=k∧(gate o k (needF l kd s)).err=(if o=0 then 1 else o)∧∀ y j,gate o k (needF l kd s)≠ .ok y j:=z30 ho fun ho=>by
 subst ho;unfold needF;rw[if_neg (by rw[←z1v,h];decide)]
theorem z8q {b:Nat} {w:World} {A:OA} {n c:Nat} {l:List Tok} {k:Nat} (h:RdS b w A n c l k 0):Cz 101 #[.slice A n c,k] w (PostPF w (exR l k)):=
 y5r A n c l k w (h.row.up (Nat.le_of_lt h.lt)) h.fit (h.giv w bR) (by have:=h.le;have:=h.len;omega) (exR l k) (z3j (by have:=h.le;have:=h.len;omega))
theorem y76 {b:Nat} {w:World} {A:OA} {n c:Nat} {l:List Tok} {k o:Nat} (h:RdS b w A n c l k o) {i:Nat} (hi:i≤l.length) {x:Ex} {j:Nat} (e:exR l i= .ok x j):sizeX x≤1000000∧nmX x≤1000000∧i≤j∧j≤n:=by
 have hs:=z3j hi;rw[e] at hs;have h1:=RdE.small (fun t ht=>z68 (h.fit.ok t ht)) (Nat.le_refl 1) hi hs;have h2:=hs.within (Nat.le_refl 1) hi;have:=h.few;have:=h.len;exact⟨by omega,by omega,h2.1,by have:=h2.2;omega⟩
theorem x02 (b:Nat) (w:World) (A:OA) (n c:Nat) (l:List Tok) (k o:Nat) (h:RdS b w A n c l k o) (hi:isO l 4 [40] k o=false):
  Cz 59 #[pP b] w (CondS b w A n c l (gate o k (condF l))):=by
 have H:=zz (Cx.start h)
 have e1:(gate o k (condF l)).at=k∧(gate o k (condF l)).err=(if o=0 then 1 else o)∧∀ y j,gate o k (condF l)≠ .ok y j:=z30 h.oks fun ho=>by
  subst ho;unfold condF needF;rw[if_neg (by rw[←z1v,hi];decide)];rfl
 have e2:=z90 h.oks hi;have KN:=needC b A n c l 4 (by decide) ⟨#[40]⟩ k o e2.1 e2.2.1;unfold CondS;rw[e1.1,e1.2.1];have ho:¬ (if o=0 then 1 else o)=0:=by split <;> omega
 suffices hs:Cz 59 #[pP b] w fun e w'=>e= .returned (.agg #[oZ,oZ,oS,oS,()])∧StepS b w A n c l k (if o=0 then 1 else o) w' from
  hs.mono fun e w' ⟨h1,h2⟩=>⟨exNone,none,0,h1,h2,fun y j hy=>absurd hy (e1.2.2 y j)⟩
 generalize (if o=0 then 1 else o)=o2 at KN ho ⊢;obtain⟨b1,b2,b3,b4⟩:=z1y ho;obtain⟨x0,x1,x2,_,_⟩:=H.out.rd.five;have hlt:=H.out.lt;clear h hi e1 e2 ho;go_enter Tryz.func59,Tryz.ntmps59;go_wp2_with (first | (go_at_call 100;go_must ((with_reducible refine(KN.out _ (H.out.rd.box _)).mono ?_);rintro e w1 ⟨rfl,hs1⟩;have HC:=zz ((H.out.alloc 38 zeroXs (by simp)).call hs1);obtain⟨d0,d1,d2,d3,d4⟩:=HC.out.rd.five;obtain⟨q0,q1,q2⟩:=HC.out.one;obtain⟨g0,g1,g2,g3,g4⟩:=(HC.out.box 0 w.heap.size zeroXs rfl).all5;obtain⟨j0,j1,j2,j3,j4⟩:=(HC.out.box 0 w.heap.size zeroXs rfl).fre5;clear hs1)));have HE:=HC.out.put5 0 w.heap.size _ _ _ _ _ rfl (.int .i64 0) oZ oS oS ();obtain⟨r0,r1,r2,r3,r4⟩:=(HE.box 0 w.heap.size _ rfl).all5;exact bodyPost_ret (v:= .agg #[oZ,oZ,oS,oS,()]) (by simp[results,Tryz.results59,go_sem,r0,r1,r2,r3,r4]) rfl ⟨rfl,HE.step⟩
abbrev ParC (b:Nat) (A:OA) (n c:Nat) (l:List Tok) (i:Nat) (x:Ex) (j er:Nat):Prop:=Hid (∀ w',RdS b w' A n c l i 0→Cz 101 #[.slice A n c,i] w' fun e w2=>∃ A2 c2,
 e= .returned (.tuple #[.agg #[x.kind,x.n,x.name,x.op,.slice A2 x.kids.length c2],j,er])∧Below w'.heap.size w' w2∧KidsX (FrX w'.heap.size w2.heap.size) w2 A2 x)
theorem y25 {b:Nat} {A:OA} {n c:Nat} {l:List Tok} {i:Nat} {x:Ex} {j:Nat} (h:exR l i= .ok x j):ParC b A n c l i x j 0:=zz fun w' h'=>by
 have:=z8q h';rw[h] at this;exact this.mono fun e w2 ⟨hb,A2,c2,he,hk⟩=>⟨A2,c2,he,hb,hk⟩
theorem x15 {b:Nat} {A:OA} {n c:Nat} {l:List Tok} {i:Nat} {j er:Nat} (h:exR l i= .bad j er):ParC b A n c l i exNone j er:=zz fun w' h'=>by
 have:=z8q h';rw[h] at this;exact this.mono fun e w2 ⟨hb,he⟩=>⟨none,0,he,hb,KidsX.leaf _ _ _ _ _ _ _⟩
abbrev cellsX (x:Ex) (A:OA) (c:Nat):List Value:=[x.kind,x.n,x.name,x.op,.slice A x.kids.length c]
theorem KidsX.putQ {m hi:Nat} {W:World} {A:OA} {x:Ex} (h:KidsX (FrX (m+1) hi) W A x) (hh:hi≤W.heap.size) (v0 v1 v2 v3 v4:Value):
  KidsX (FrX m (((((W.setCell ⟨m,0,none⟩ v0).setCell ⟨m,1,none⟩ v1).setCell ⟨m,2,none⟩ v2).setCell ⟨m,3,none⟩ v3).setCell ⟨m,4,none⟩ v4).heap.size) (((((W.setCell ⟨m,0,none⟩ v0).setCell ⟨m,1,none⟩ v1).setCell ⟨m,2,none⟩ v2).setCell ⟨m,3,none⟩ v3).setCell ⟨m,4,none⟩ v4) A x:=
 (h.put5 (c:=m) (fun hp=>by have:=hp.1;omega) v0 v1 v2 v3 v4).to (Nat.le_succ _) (by have:=z0y W m v0 v1 v2 v3 v4;unfold Go.Proofs.YtngfihoempcplaaGreatDoor.put5 at this;rw[this];exact hh)
theorem y84 (b:Nat) (w:World) (A:OA) (n c:Nat) (l:List Tok) (k i:Nat) (x:Ex) (j er:Nat) (h:RdS b w A n c l k 0) (hj:j≤n) (her:er=1∨er=8)
  (KN:NeedC b A n c l 4 ⟨#[40]⟩ k 0 i 0) (KP:ParC b A n c l i x j er) (KR:RefC b A n c l er j 0 er) (KM:NeedC b A n c l 4 ⟨#[41]⟩ j er j er):
  Cz 59 #[pP b] w fun e w'=>∃ A2 c2,e= .returned (.agg #[x.kind,x.n,x.name,x.op,.slice A2 x.kids.length c2])∧StepS b w A n c l j er w':=by
 have H:=zz (Cx.start h);obtain⟨b1,b2,b3,b4⟩:=z1y (a:=er) (by omega);obtain⟨x0,x1,x2,_,_⟩:=H.out.rd.five;have hlt:=H.out.lt;have HJ:=zz hj;have kb:k≤4000:=by have:=h.few;have:=h.le;omega
 clear h her hj;go_enter Tryz.func59,Tryz.ntmps59;go_wp2_with (first | (go_at_call 100;go_must ((with_reducible refine(KN.out _ (H.out.rd.box _)).mono ?_);rintro e w1 ⟨rfl,hs1⟩;have HC:=zz ((H.out.alloc 38 zeroXs (by simp)).call hs1);obtain⟨d0,d1,d2,d3,d4⟩:=HC.out.rd.five;obtain⟨q0,q1,q2⟩:=HC.out.one;clear hs1)));clear d3 d4 x0 x1 x2;obtain⟨d0,d1,d2,d3,d4⟩:=HC.out.drew.rd.five;obtain⟨a0,a1,a2,a3,a4⟩:=(HC.out.alloc 38 zeroXs (by simp)).drew.rd.five;have m0:=d0;have m1:=d1;have n0:=d0;have n1:=d1;have s0:=d0;have s1:=d1;clear d3 d4 a2 a3 a4
 go_region_held3 (fun W'=>W'.cell? ⟨b,0,none⟩=some (.slice A n c)∧W'.cell? ⟨b,1,none⟩=some (.int .i64 i))
  (first | (with_reducible exact⟨d0,d1⟩) | (with_reducible exact⟨a0,a1⟩) | (with_reducible exact⟨m0,m1⟩) | (with_reducible exact⟨n0,n1⟩) | (with_reducible exact⟨s0,s1⟩))
  (first
   | (go_at_call 101;((with_reducible refine(KP.out _ HC.out.drew.rd).mono ?_));rintro e w2 ⟨A2,c2,rfl,hb2,hk2⟩;have HK2:=zz (HC.out.drew.below hb2);have HG:=zz (HK2.out.alloc 38 (cellsX x A2 c2) (by simp));have HXK:=zz (hk2.to (lo':=w.heap.size+1) (hi':=w2.heap.size) (by exact q2) nR);obtain⟨m0,m1,_⟩:=HK2.out.rd.five;have HD0:=zz (HK2.out.alloc 38 zeroXs (by simp));obtain⟨n0,n1,_⟩:=HD0.out.rd.five;obtain⟨s0,s1,_⟩:=HG.out.rd.five)
   | (go_at_call 101;((with_reducible refine(KP.out _ (HC.out.alloc 38 zeroXs (by simp)).drew.rd).mono ?_));rintro e w2 ⟨A2,c2,rfl,hb2,hk2⟩;have HK2:=zz ((HC.out.alloc 38 zeroXs (by simp)).drew.below hb2);have HG:=zz (HK2.out.put5 0 _ _ _ _ _ _ rfl (.int .i64 x.kind) (.int .i64 x.n) (.string ⟨x.name.toArray⟩) (.string ⟨x.op.toArray⟩) (.slice A2 x.kids.length c2));have HXK:=zz (hk2.to (lo':=w.heap.size+1) (hi':=w2.heap.size) (by simp;omega) nR);have HXK2:=zz ((hk2.put5 (c:=w1.heap.size) (fun hp=>by have h9:w1.heap.size+1≤w1.heap.size:=(by simpa using hp.1);omega) (.int .i64 x.kind) (.int .i64 x.n) (.string ⟨x.name.toArray⟩) (.string ⟨x.op.toArray⟩) (.slice A2 x.kids.length c2)).to (lo':=w.heap.size+1) (hi':=w2.heap.size) (by simp;omega) nR);obtain⟨m0,m1,_⟩:=HK2.out.rd.five;obtain⟨s0,s1,_⟩:=HG.out.rd.five;obtain⟨p0,p1,p2,p3,p4⟩:=(HK2.out.box 0 _ zeroXs rfl).all5;obtain⟨o0,o1,o2,o3,o4⟩:=(HK2.out.box 0 _ zeroXs rfl).fre5))
 ·obtain⟨W,HW,HKX,hW⟩:∃ W,Hid (Cx b w W A n c l i 0 [(w2.heap.size,cellsX x A2 c2),(w.heap.size,zeroXs)])∧Hid (KidsX (FrX (w.heap.size+1) w2.heap.size) W A2 x∧w2.heap.size≤W.heap.size)∧W=w2.alloc (.cells #[x.kind,x.n,x.name,x.op,.slice A2 x.kids.length c2] 38):=⟨_,HG,zz ⟨HXK.out.allocX (fun k hk=>hk.2) _,by simp⟩,rfl⟩
  rw[←hW];clear hW HG HXK HD0 HK2 m0 m1 n0 n1 s0 s1 d0 d1 d2 a0 a1 q0 q1 q2;obtain⟨d0,d1,d2,d3,d4⟩:=HW.out.rd.five;obtain⟨q0,q1,q2,q3⟩:=HW.out.two;obtain⟨g0,g1,g2,g3,g4⟩:=(HW.out.box 1 w.heap.size zeroXs rfl).all5;obtain⟨j0,j1,j2,j3,j4⟩:=(HW.out.box 1 w.heap.size zeroXs rfl).fre5;obtain⟨y0,y1,y2,y3,y4⟩:=(HW.out.box 0 _ (cellsX x A2 c2) rfl).all5;go_wp2_with (first | (go_at_call 17;go_must ((with_reducible refine(KR.out _ (HW.out.place j j rfl HJ.out).rd).mono ?_);rintro e w4 ⟨rfl,hs4⟩;have HR:=zz ((HW.out.place j j rfl HJ.out).call hs4);clear hs4)) | (go_at_call 100;go_must ((with_reducible refine(KM.out _ HR.out.rd).mono ?_);rintro e w5 ⟨rfl,hs5⟩;have HS:=zz (HR.out.call hs5);clear hs5;obtain⟨d0,d1,d2,d3,d4⟩:=HS.out.rd.five;obtain⟨q0,q1,q2,q3⟩:=HS.out.two;obtain⟨g0,g1,g2,g3,g4⟩:=(HS.out.box 1 w.heap.size zeroXs rfl).all5;obtain⟨j0,j1,j2,j3,j4⟩:=(HS.out.box 1 w.heap.size zeroXs rfl).fre5;obtain⟨y0,y1,y2,y3,y4⟩:=(HS.out.box 0 _ (cellsX x A2 c2) rfl).all5)));have HE:=HS.out.put5 1 w.heap.size _ _ _ _ _ rfl (.int .i64 x.kind) (.int .i64 x.n) (.string ⟨x.name.toArray⟩) (.string ⟨x.op.toArray⟩) (.slice A2 x.kids.length c2);obtain⟨r0,r1,r2,r3,r4⟩:=(HE.box 1 w.heap.size _ rfl).all5;exact bodyPost_ret (v:= .agg #[x.kind,x.n,x.name,x.op,.slice A2 x.kids.length c2]) (by simp[results,Tryz.results59,go_sem,r0,r1,r2,r3,r4]) rfl ⟨A2,c2,rfl,HE.step⟩
 ·obtain⟨W,HW,HKX,hW⟩:∃ W,Hid (Cx b w W A n c l i 0 [(w1.heap.size,cellsX x A2 c2),(w.heap.size,zeroXs)])∧Hid (KidsX (FrX (w.heap.size+1) w2.heap.size) W A2 x∧w2.heap.size≤W.heap.size)∧W=((((w2.setCell ⟨w1.heap.size,0,none⟩ (.int .i64 x.kind)).setCell ⟨w1.heap.size,1,none⟩ (.int .i64 x.n)).setCell ⟨w1.heap.size,2,none⟩ (.string ⟨x.name.toArray⟩)).setCell ⟨w1.heap.size,3,none⟩ (.string ⟨x.op.toArray⟩)).setCell ⟨w1.heap.size,4,none⟩ (.slice A2 x.kids.length c2):=⟨_,HG,zz ⟨HXK2.out,by simp[World.setCell]⟩,rfl⟩
  rw[←hW];clear hW HG HXK HXK2 p0 p1 p2 p3 p4 o0 o1 o2 o3 o4 HK2 m0 m1 n0 n1 s0 s1 d0 d1 d2 a0 a1 q0 q1 q2;obtain⟨d0,d1,d2,d3,d4⟩:=HW.out.rd.five;obtain⟨q0,q1,q2,q3⟩:=HW.out.two;obtain⟨g0,g1,g2,g3,g4⟩:=(HW.out.box 1 w.heap.size zeroXs rfl).all5;obtain⟨j0,j1,j2,j3,j4⟩:=(HW.out.box 1 w.heap.size zeroXs rfl).fre5;obtain⟨y0,y1,y2,y3,y4⟩:=(HW.out.box 0 _ (cellsX x A2 c2) rfl).all5;go_wp2_with (first | (go_at_call 17;go_must ((with_reducible refine(KR.out _ (HW.out.place j j rfl HJ.out).rd).mono ?_);rintro e w4 ⟨rfl,hs4⟩;have HR:=zz ((HW.out.place j j rfl HJ.out).call hs4);clear hs4)) | (go_at_call 100;go_must ((with_reducible refine(KM.out _ HR.out.rd).mono ?_);rintro e w5 ⟨rfl,hs5⟩;have HS:=zz (HR.out.call hs5);clear hs5;obtain⟨d0,d1,d2,d3,d4⟩:=HS.out.rd.five;obtain⟨q0,q1,q2,q3⟩:=HS.out.two;obtain⟨g0,g1,g2,g3,g4⟩:=(HS.out.box 1 w.heap.size zeroXs rfl).all5;obtain⟨j0,j1,j2,j3,j4⟩:=(HS.out.box 1 w.heap.size zeroXs rfl).fre5;obtain⟨y0,y1,y2,y3,y4⟩:=(HS.out.box 0 _ (cellsX x A2 c2) rfl).all5)));have HE:=HS.out.put5 1 w.heap.size _ _ _ _ _ rfl (.int .i64 x.kind) (.int .i64 x.n) (.string ⟨x.name.toArray⟩) (.string ⟨x.op.toArray⟩) (.slice A2 x.kids.length c2);obtain⟨r0,r1,r2,r3,r4⟩:=(HE.box 1 w.heap.size _ rfl).all5;exact bodyPost_ret (v:= .agg #[x.kind,x.n,x.name,x.op,.slice A2 x.kids.length c2]) (by simp[results,Tryz.results59,go_sem,r0,r1,r2,r3,r4]) rfl ⟨A2,c2,rfl,HE.step⟩
theorem y65 (b:Nat) (w:World) (A:OA) (n c:Nat) (l:List Tok) (k i:Nat) (x:Ex) (j:Nat) (h:RdS b w A n c l k 0) (hj:j≤n)
  (KN:NeedC b A n c l 4 ⟨#[40]⟩ k 0 i 0) (KP:ParC b A n c l i x j 0) (KM:NeedC b A n c l 4 ⟨#[41]⟩ j 0 j 1):
  Cz 59 #[pP b] w fun e w'=>∃ A2 c2,e= .returned (.agg #[x.kind,x.n,x.name,x.op,.slice A2 x.kids.length c2])∧StepS b w A n c l j 1 w':=by
 have H:=zz (Cx.start h);obtain⟨x0,x1,x2,_,_⟩:=H.out.rd.five;have hlt:=H.out.lt;have HJ:=zz hj;have kb:k≤4000:=by have:=h.few;have:=h.le;omega
 clear h hj;go_enter Tryz.func59,Tryz.ntmps59;go_wp2_with (first | (go_at_call 100;go_must ((with_reducible refine(KN.out _ (H.out.rd.box _)).mono ?_);rintro e w1 ⟨rfl,hs1⟩;have HC:=zz ((H.out.alloc 38 zeroXs (by simp)).call hs1);obtain⟨d0,d1,d2,d3,d4⟩:=HC.out.rd.five;obtain⟨q0,q1,q2⟩:=HC.out.one;clear hs1)));clear d3 d4 x0 x1 x2;obtain⟨d0,d1,d2,d3,d4⟩:=HC.out.drew.rd.five;obtain⟨a0,a1,a2,a3,a4⟩:=(HC.out.alloc 38 zeroXs (by simp)).drew.rd.five;have m0:=d0;have m1:=d1;have n0:=d0;have n1:=d1;have s0:=d0;have s1:=d1;clear d3 d4 a2 a3 a4
 go_region_held3 (fun W'=>W'.cell? ⟨b,0,none⟩=some (.slice A n c)∧W'.cell? ⟨b,1,none⟩=some (.int .i64 i))
  (first | (with_reducible exact⟨d0,d1⟩) | (with_reducible exact⟨a0,a1⟩) | (with_reducible exact⟨m0,m1⟩) | (with_reducible exact⟨n0,n1⟩) | (with_reducible exact⟨s0,s1⟩))
  (first
   | (go_at_call 101;((with_reducible refine(KP.out _ HC.out.drew.rd).mono ?_));rintro e w2 ⟨A2,c2,rfl,hb2,hk2⟩;have HK2:=zz (HC.out.drew.below hb2);have HG:=zz (HK2.out.alloc 38 (cellsX x A2 c2) (by simp));have HXK:=zz (hk2.to (lo':=w.heap.size+1) (hi':=w2.heap.size) (by exact q2) nR);obtain⟨m0,m1,_⟩:=HK2.out.rd.five;have HD0:=zz (HK2.out.alloc 38 zeroXs (by simp));obtain⟨n0,n1,_⟩:=HD0.out.rd.five;obtain⟨s0,s1,_⟩:=HG.out.rd.five)
   | (go_at_call 101;((with_reducible refine(KP.out _ (HC.out.alloc 38 zeroXs (by simp)).drew.rd).mono ?_));rintro e w2 ⟨A2,c2,rfl,hb2,hk2⟩;have HK2:=zz ((HC.out.alloc 38 zeroXs (by simp)).drew.below hb2);have HG:=zz (HK2.out.put5 0 _ _ _ _ _ _ rfl (.int .i64 x.kind) (.int .i64 x.n) (.string ⟨x.name.toArray⟩) (.string ⟨x.op.toArray⟩) (.slice A2 x.kids.length c2));have HXK:=zz (hk2.to (lo':=w.heap.size+1) (hi':=w2.heap.size) (by simp;omega) nR);have HXK2:=zz ((hk2.put5 (c:=w1.heap.size) (fun hp=>by have h9:w1.heap.size+1≤w1.heap.size:=(by simpa using hp.1);omega) (.int .i64 x.kind) (.int .i64 x.n) (.string ⟨x.name.toArray⟩) (.string ⟨x.op.toArray⟩) (.slice A2 x.kids.length c2)).to (lo':=w.heap.size+1) (hi':=w2.heap.size) (by simp;omega) nR);obtain⟨m0,m1,_⟩:=HK2.out.rd.five;obtain⟨s0,s1,_⟩:=HG.out.rd.five;obtain⟨p0,p1,p2,p3,p4⟩:=(HK2.out.box 0 _ zeroXs rfl).all5;obtain⟨o0,o1,o2,o3,o4⟩:=(HK2.out.box 0 _ zeroXs rfl).fre5))
 ·obtain⟨W,HW,HKX,hW⟩:∃ W,Hid (Cx b w W A n c l i 0 [(w2.heap.size,cellsX x A2 c2),(w.heap.size,zeroXs)])∧Hid (KidsX (FrX (w.heap.size+1) w2.heap.size) W A2 x∧w2.heap.size≤W.heap.size)∧W=w2.alloc (.cells #[x.kind,x.n,x.name,x.op,.slice A2 x.kids.length c2] 38):=⟨_,HG,zz ⟨HXK.out.allocX (fun k hk=>hk.2) _,by simp⟩,rfl⟩
  rw[←hW];clear hW HG HXK HD0 HK2 m0 m1 n0 n1 s0 s1 d0 d1 d2 a0 a1 q0 q1 q2;obtain⟨d0,d1,d2,d3,d4⟩:=HW.out.rd.five;obtain⟨q0,q1,q2,q3⟩:=HW.out.two;obtain⟨g0,g1,g2,g3,g4⟩:=(HW.out.box 1 w.heap.size zeroXs rfl).all5;obtain⟨j0,j1,j2,j3,j4⟩:=(HW.out.box 1 w.heap.size zeroXs rfl).fre5;obtain⟨y0,y1,y2,y3,y4⟩:=(HW.out.box 0 _ (cellsX x A2 c2) rfl).all5;go_wp2_with (first | (go_at_call 100;go_must ((with_reducible refine(KM.out _ (HW.out.place j j rfl HJ.out).rd).mono ?_);rintro e w5 ⟨rfl,hs5⟩;have HS:=zz ((HW.out.place j j rfl HJ.out).call hs5);clear hs5;obtain⟨d0,d1,d2,d3,d4⟩:=HS.out.rd.five;obtain⟨q0,q1,q2,q3⟩:=HS.out.two;obtain⟨g0,g1,g2,g3,g4⟩:=(HS.out.box 1 w.heap.size zeroXs rfl).all5;obtain⟨j0,j1,j2,j3,j4⟩:=(HS.out.box 1 w.heap.size zeroXs rfl).fre5;obtain⟨y0,y1,y2,y3,y4⟩:=(HS.out.box 0 _ (cellsX x A2 c2) rfl).all5)));have HE:=HS.out.put5 1 w.heap.size _ _ _ _ _ rfl (.int .i64 x.kind) (.int .i64 x.n) (.string ⟨x.name.toArray⟩) (.string ⟨x.op.toArray⟩) (.slice A2 x.kids.length c2);obtain⟨r0,r1,r2,r3,r4⟩:=(HE.box 1 w.heap.size _ rfl).all5;exact bodyPost_ret (v:= .agg #[x.kind,x.n,x.name,x.op,.slice A2 x.kids.length c2]) (by simp[results,Tryz.results59,go_sem,r0,r1,r2,r3,r4]) rfl ⟨A2,c2,rfl,HE.step⟩
 ·obtain⟨W,HW,HKX,hW⟩:∃ W,Hid (Cx b w W A n c l i 0 [(w1.heap.size,cellsX x A2 c2),(w.heap.size,zeroXs)])∧Hid (KidsX (FrX (w.heap.size+1) w2.heap.size) W A2 x∧w2.heap.size≤W.heap.size)∧W=((((w2.setCell ⟨w1.heap.size,0,none⟩ (.int .i64 x.kind)).setCell ⟨w1.heap.size,1,none⟩ (.int .i64 x.n)).setCell ⟨w1.heap.size,2,none⟩ (.string ⟨x.name.toArray⟩)).setCell ⟨w1.heap.size,3,none⟩ (.string ⟨x.op.toArray⟩)).setCell ⟨w1.heap.size,4,none⟩ (.slice A2 x.kids.length c2):=⟨_,HG,zz ⟨HXK2.out,by simp[World.setCell]⟩,rfl⟩
  rw[←hW];clear hW HG HXK HXK2 p0 p1 p2 p3 p4 o0 o1 o2 o3 o4 HK2 m0 m1 n0 n1 s0 s1 d0 d1 d2 a0 a1 q0 q1 q2;obtain⟨d0,d1,d2,d3,d4⟩:=HW.out.rd.five;obtain⟨q0,q1,q2,q3⟩:=HW.out.two;obtain⟨g0,g1,g2,g3,g4⟩:=(HW.out.box 1 w.heap.size zeroXs rfl).all5;obtain⟨j0,j1,j2,j3,j4⟩:=(HW.out.box 1 w.heap.size zeroXs rfl).fre5;obtain⟨y0,y1,y2,y3,y4⟩:=(HW.out.box 0 _ (cellsX x A2 c2) rfl).all5;go_wp2_with (first | (go_at_call 100;go_must ((with_reducible refine(KM.out _ (HW.out.place j j rfl HJ.out).rd).mono ?_);rintro e w5 ⟨rfl,hs5⟩;have HS:=zz ((HW.out.place j j rfl HJ.out).call hs5);clear hs5;obtain⟨d0,d1,d2,d3,d4⟩:=HS.out.rd.five;obtain⟨q0,q1,q2,q3⟩:=HS.out.two;obtain⟨g0,g1,g2,g3,g4⟩:=(HS.out.box 1 w.heap.size zeroXs rfl).all5;obtain⟨j0,j1,j2,j3,j4⟩:=(HS.out.box 1 w.heap.size zeroXs rfl).fre5;obtain⟨y0,y1,y2,y3,y4⟩:=(HS.out.box 0 _ (cellsX x A2 c2) rfl).all5)));have HE:=HS.out.put5 1 w.heap.size _ _ _ _ _ rfl (.int .i64 x.kind) (.int .i64 x.n) (.string ⟨x.name.toArray⟩) (.string ⟨x.op.toArray⟩) (.slice A2 x.kids.length c2);obtain⟨r0,r1,r2,r3,r4⟩:=(HE.box 1 w.heap.size _ rfl).all5;exact bodyPost_ret (v:= .agg #[x.kind,x.n,x.name,x.op,.slice A2 x.kids.length c2]) (by simp[results,Tryz.results59,go_sem,r0,r1,r2,r3,r4]) rfl ⟨A2,c2,rfl,HE.step⟩
theorem x01 (b:Nat) (w:World) (A:OA) (n c:Nat) (l:List Tok) (k i:Nat) (x:Ex) (j:Nat) (h:RdS b w A n c l k 0) (hj:j≤n)
  (KN:NeedC b A n c l 4 ⟨#[40]⟩ k 0 i 0) (KP:ParC b A n c l i x j 0) (KM:NeedC b A n c l 4 ⟨#[41]⟩ j 0 (j+1) 0)
  (KY:Hid (∀ w' A2 c2,KidsX (FrX w.heap.size w'.heap.size) w' A2 x→Cz 81 #[.agg #[x.kind,x.n,x.name,x.op,.slice A2 x.kids.length c2]] w' fun e w2=>e= .returned true∧Below w'.heap.size w' w2)):
  Cz 59 #[pP b] w fun e w'=>∃ A2 c2,e= .returned (.agg #[x.kind,x.n,x.name,x.op,.slice A2 x.kids.length c2])∧StepS b w A n c l (j+1) 0 w'∧KidsX (FrX w.heap.size w'.heap.size) w' A2 x:=by
 have H:=zz (Cx.start h);obtain⟨x0,x1,x2,_,_⟩:=H.out.rd.five;have hlt:=H.out.lt;have HJ:=zz hj;have kb:k≤4000:=by have:=h.few;have:=h.le;omega
 clear h hj;go_enter Tryz.func59,Tryz.ntmps59;go_wp2_with (first | (go_at_call 100;go_must ((with_reducible refine(KN.out _ (H.out.rd.box _)).mono ?_);rintro e w1 ⟨rfl,hs1⟩;have HC:=zz ((H.out.alloc 38 zeroXs (by simp)).call hs1);obtain⟨d0,d1,d2,d3,d4⟩:=HC.out.rd.five;obtain⟨q0,q1,q2⟩:=HC.out.one;clear hs1)));clear d3 d4 x0 x1 x2;obtain⟨d0,d1,d2,d3,d4⟩:=HC.out.drew.rd.five;obtain⟨a0,a1,a2,a3,a4⟩:=(HC.out.alloc 38 zeroXs (by simp)).drew.rd.five;have m0:=d0;have m1:=d1;have n0:=d0;have n1:=d1;have s0:=d0;have s1:=d1;clear d3 d4 a2 a3 a4
 go_region_held3 (fun W'=>W'.cell? ⟨b,0,none⟩=some (.slice A n c)∧W'.cell? ⟨b,1,none⟩=some (.int .i64 i))
  (first | (with_reducible exact⟨d0,d1⟩) | (with_reducible exact⟨a0,a1⟩) | (with_reducible exact⟨m0,m1⟩) | (with_reducible exact⟨n0,n1⟩) | (with_reducible exact⟨s0,s1⟩))
  (first
   | (go_at_call 101;((with_reducible refine(KP.out _ HC.out.drew.rd).mono ?_));rintro e w2 ⟨A2,c2,rfl,hb2,hk2⟩;have HK2:=zz (HC.out.drew.below hb2);have HG:=zz (HK2.out.alloc 38 (cellsX x A2 c2) (by simp));have HXK:=zz (hk2.to (lo':=w.heap.size+1) (hi':=w2.heap.size) (by exact q2) nR);obtain⟨m0,m1,_⟩:=HK2.out.rd.five;have HD0:=zz (HK2.out.alloc 38 zeroXs (by simp));obtain⟨n0,n1,_⟩:=HD0.out.rd.five;obtain⟨s0,s1,_⟩:=HG.out.rd.five)
   | (go_at_call 101;((with_reducible refine(KP.out _ (HC.out.alloc 38 zeroXs (by simp)).drew.rd).mono ?_));rintro e w2 ⟨A2,c2,rfl,hb2,hk2⟩;have HK2:=zz ((HC.out.alloc 38 zeroXs (by simp)).drew.below hb2);have HG:=zz (HK2.out.put5 0 _ _ _ _ _ _ rfl (.int .i64 x.kind) (.int .i64 x.n) (.string ⟨x.name.toArray⟩) (.string ⟨x.op.toArray⟩) (.slice A2 x.kids.length c2));have HXK:=zz (hk2.to (lo':=w.heap.size+1) (hi':=w2.heap.size) (by simp;omega) nR);have HXK2:=zz ((hk2.put5 (c:=w1.heap.size) (fun hp=>by have h9:w1.heap.size+1≤w1.heap.size:=(by simpa using hp.1);omega) (.int .i64 x.kind) (.int .i64 x.n) (.string ⟨x.name.toArray⟩) (.string ⟨x.op.toArray⟩) (.slice A2 x.kids.length c2)).to (lo':=w.heap.size+1) (hi':=w2.heap.size) (by simp;omega) nR);obtain⟨m0,m1,_⟩:=HK2.out.rd.five;obtain⟨s0,s1,_⟩:=HG.out.rd.five;obtain⟨p0,p1,p2,p3,p4⟩:=(HK2.out.box 0 _ zeroXs rfl).all5;obtain⟨o0,o1,o2,o3,o4⟩:=(HK2.out.box 0 _ zeroXs rfl).fre5))
 ·obtain⟨W,HW,HKX,hW⟩:∃ W,Hid (Cx b w W A n c l i 0 [(w2.heap.size,cellsX x A2 c2),(w.heap.size,zeroXs)])∧Hid (KidsX (FrX (w.heap.size+1) w2.heap.size) W A2 x∧w2.heap.size≤W.heap.size)∧W=w2.alloc (.cells #[x.kind,x.n,x.name,x.op,.slice A2 x.kids.length c2] 38):=⟨_,HG,zz ⟨HXK.out.allocX (fun k hk=>hk.2) _,by simp⟩,rfl⟩
  rw[←hW];clear hW HG HXK HD0 HK2 m0 m1 n0 n1 s0 s1 d0 d1 d2 a0 a1 q0 q1 q2;obtain⟨d0,d1,d2,d3,d4⟩:=HW.out.rd.five;obtain⟨q0,q1,q2,q3⟩:=HW.out.two;obtain⟨g0,g1,g2,g3,g4⟩:=(HW.out.box 1 w.heap.size zeroXs rfl).all5;obtain⟨j0,j1,j2,j3,j4⟩:=(HW.out.box 1 w.heap.size zeroXs rfl).fre5;obtain⟨y0,y1,y2,y3,y4⟩:=(HW.out.box 0 _ (cellsX x A2 c2) rfl).all5;go_wp2_with (first | (go_at_call 100;go_must ((with_reducible refine(KM.out _ (HW.out.place j j rfl HJ.out).rd).mono ?_);rintro e w5 ⟨rfl,hs5⟩;have HS:=zz ((HW.out.place j j rfl HJ.out).call hs5);have HKS:=zz (((HKX.out.1.over (fun q hq=>Below.heap_setCell _ _ _ _ (by have:=hq.1;have:=HW.out.lt;show q≠b;omega))).grownX hs5.1 (fun q hq=>⟨Nat.lt_of_lt_of_le hq.2 (by have:=HKX.out.2;simpa[World.setCell] using this),by have:=hq.1;have:=HW.out.lt;omega⟩)).to (hi':=w5.heap.size) nR (by have h1:=HKX.out.2;have h2:=hs5.1.size;simp[World.setCell] at h2;omega));clear hs5;obtain⟨d0,d1,d2,d3,d4⟩:=HS.out.rd.five;obtain⟨q0,q1,q2,q3⟩:=HS.out.two;obtain⟨g0,g1,g2,g3,g4⟩:=(HS.out.box 1 w.heap.size zeroXs rfl).all5;obtain⟨j0,j1,j2,j3,j4⟩:=(HS.out.box 1 w.heap.size zeroXs rfl).fre5;obtain⟨y0,y1,y2,y3,y4⟩:=(HS.out.box 0 _ (cellsX x A2 c2) rfl).all5)) | (go_at_call 81;go_must ((with_reducible refine(KY.out _ _ _ (HKS.out.to (Nat.le_succ _) nR)).mono ?_);rintro e w6 ⟨rfl,hb6⟩;have HY:=zz (HS.out.below hb6);have HKY:=zz (And.intro (HKS.out.over (fun q hq=>hb6.block q hq.2)) hb6.size);clear hb6;obtain⟨d0,d1,d2,d3,d4⟩:=HY.out.rd.five;obtain⟨q0,q1,q2,q3⟩:=HY.out.two;obtain⟨g0,g1,g2,g3,g4⟩:=(HY.out.box 1 w.heap.size zeroXs rfl).all5;obtain⟨j0,j1,j2,j3,j4⟩:=(HY.out.box 1 w.heap.size zeroXs rfl).fre5;obtain⟨y0,y1,y2,y3,y4⟩:=(HY.out.box 0 _ (cellsX x A2 c2) rfl).all5)));have HE:=HY.out.put5 1 w.heap.size _ _ _ _ _ rfl (.int .i64 x.kind) (.int .i64 x.n) (.string ⟨x.name.toArray⟩) (.string ⟨x.op.toArray⟩) (.slice A2 x.kids.length c2);obtain⟨r0,r1,r2,r3,r4⟩:=(HE.box 1 w.heap.size _ rfl).all5;exact bodyPost_ret (v:= .agg #[x.kind,x.n,x.name,x.op,.slice A2 x.kids.length c2]) (by simp[results,Tryz.results59,go_sem,r0,r1,r2,r3,r4]) rfl ⟨A2,c2,rfl,HE.step,HKY.out.1.putQ HKY.out.2 _ _ _ _ _⟩
 ·obtain⟨W,HW,HKX,hW⟩:∃ W,Hid (Cx b w W A n c l i 0 [(w1.heap.size,cellsX x A2 c2),(w.heap.size,zeroXs)])∧Hid (KidsX (FrX (w.heap.size+1) w2.heap.size) W A2 x∧w2.heap.size≤W.heap.size)∧W=((((w2.setCell ⟨w1.heap.size,0,none⟩ (.int .i64 x.kind)).setCell ⟨w1.heap.size,1,none⟩ (.int .i64 x.n)).setCell ⟨w1.heap.size,2,none⟩ (.string ⟨x.name.toArray⟩)).setCell ⟨w1.heap.size,3,none⟩ (.string ⟨x.op.toArray⟩)).setCell ⟨w1.heap.size,4,none⟩ (.slice A2 x.kids.length c2):=⟨_,HG,zz ⟨HXK2.out,by simp[World.setCell]⟩,rfl⟩
  rw[←hW];clear hW HG HXK HXK2 p0 p1 p2 p3 p4 o0 o1 o2 o3 o4 HK2 m0 m1 n0 n1 s0 s1 d0 d1 d2 a0 a1 q0 q1 q2;obtain⟨d0,d1,d2,d3,d4⟩:=HW.out.rd.five;obtain⟨q0,q1,q2,q3⟩:=HW.out.two;obtain⟨g0,g1,g2,g3,g4⟩:=(HW.out.box 1 w.heap.size zeroXs rfl).all5;obtain⟨j0,j1,j2,j3,j4⟩:=(HW.out.box 1 w.heap.size zeroXs rfl).fre5;obtain⟨y0,y1,y2,y3,y4⟩:=(HW.out.box 0 _ (cellsX x A2 c2) rfl).all5;go_wp2_with (first | (go_at_call 100;go_must ((with_reducible refine(KM.out _ (HW.out.place j j rfl HJ.out).rd).mono ?_);rintro e w5 ⟨rfl,hs5⟩;have HS:=zz ((HW.out.place j j rfl HJ.out).call hs5);have HKS:=zz (((HKX.out.1.over (fun q hq=>Below.heap_setCell _ _ _ _ (by have:=hq.1;have:=HW.out.lt;show q≠b;omega))).grownX hs5.1 (fun q hq=>⟨Nat.lt_of_lt_of_le hq.2 (by have:=HKX.out.2;simpa[World.setCell] using this),by have:=hq.1;have:=HW.out.lt;omega⟩)).to (hi':=w5.heap.size) nR (by have h1:=HKX.out.2;have h2:=hs5.1.size;simp[World.setCell] at h2;omega));clear hs5;obtain⟨d0,d1,d2,d3,d4⟩:=HS.out.rd.five;obtain⟨q0,q1,q2,q3⟩:=HS.out.two;obtain⟨g0,g1,g2,g3,g4⟩:=(HS.out.box 1 w.heap.size zeroXs rfl).all5;obtain⟨j0,j1,j2,j3,j4⟩:=(HS.out.box 1 w.heap.size zeroXs rfl).fre5;obtain⟨y0,y1,y2,y3,y4⟩:=(HS.out.box 0 _ (cellsX x A2 c2) rfl).all5)) | (go_at_call 81;go_must ((with_reducible refine(KY.out _ _ _ (HKS.out.to (Nat.le_succ _) nR)).mono ?_);rintro e w6 ⟨rfl,hb6⟩;have HY:=zz (HS.out.below hb6);have HKY:=zz (And.intro (HKS.out.over (fun q hq=>hb6.block q hq.2)) hb6.size);clear hb6;obtain⟨d0,d1,d2,d3,d4⟩:=HY.out.rd.five;obtain⟨q0,q1,q2,q3⟩:=HY.out.two;obtain⟨g0,g1,g2,g3,g4⟩:=(HY.out.box 1 w.heap.size zeroXs rfl).all5;obtain⟨j0,j1,j2,j3,j4⟩:=(HY.out.box 1 w.heap.size zeroXs rfl).fre5;obtain⟨y0,y1,y2,y3,y4⟩:=(HY.out.box 0 _ (cellsX x A2 c2) rfl).all5)));have HE:=HY.out.put5 1 w.heap.size _ _ _ _ _ rfl (.int .i64 x.kind) (.int .i64 x.n) (.string ⟨x.name.toArray⟩) (.string ⟨x.op.toArray⟩) (.slice A2 x.kids.length c2);obtain⟨r0,r1,r2,r3,r4⟩:=(HE.box 1 w.heap.size _ rfl).all5;exact bodyPost_ret (v:= .agg #[x.kind,x.n,x.name,x.op,.slice A2 x.kids.length c2]) (by simp[results,Tryz.results59,go_sem,r0,r1,r2,r3,r4]) rfl ⟨A2,c2,rfl,HE.step,HKY.out.1.putQ HKY.out.2 _ _ _ _ _⟩
theorem y6a (b:Nat) (w:World) (A:OA) (n c:Nat) (l:List Tok) (k i:Nat) (x:Ex) (j:Nat) (h:RdS b w A n c l k 0) (hj:j≤n)
  (KN:NeedC b A n c l 4 ⟨#[40]⟩ k 0 i 0) (KP:ParC b A n c l i x j 0) (hk:k≤n) (KM:NeedC b A n c l 4 ⟨#[41]⟩ j 0 (j+1) 0)
  (KY:Hid (∀ w' A2 c2,KidsX (FrX w.heap.size w'.heap.size) w' A2 x→Cz 81 #[.agg #[x.kind,x.n,x.name,x.op,.slice A2 x.kids.length c2]] w' fun e w2=>e= .returned false∧Below w'.heap.size w' w2)) (KR:RefC b A n c l 8 k 0 8):
  Cz 59 #[pP b] w fun e w'=>∃ A2 c2,e= .returned (.agg #[x.kind,x.n,x.name,x.op,.slice A2 x.kids.length c2])∧StepS b w A n c l k 8 w':=by
 have HK:=zz hk;clear hk;have H:=zz (Cx.start h);obtain⟨x0,x1,x2,_,_⟩:=H.out.rd.five;have hlt:=H.out.lt;have HJ:=zz hj;have kb:k≤4000:=by have:=h.few;have:=h.le;omega
 clear h hj;go_enter Tryz.func59,Tryz.ntmps59;go_wp2_with (first | (go_at_call 100;go_must ((with_reducible refine(KN.out _ (H.out.rd.box _)).mono ?_);rintro e w1 ⟨rfl,hs1⟩;have HC:=zz ((H.out.alloc 38 zeroXs (by simp)).call hs1);obtain⟨d0,d1,d2,d3,d4⟩:=HC.out.rd.five;obtain⟨q0,q1,q2⟩:=HC.out.one;clear hs1)));clear d3 d4 x0 x1 x2;obtain⟨d0,d1,d2,d3,d4⟩:=HC.out.drew.rd.five;obtain⟨a0,a1,a2,a3,a4⟩:=(HC.out.alloc 38 zeroXs (by simp)).drew.rd.five;have m0:=d0;have m1:=d1;have n0:=d0;have n1:=d1;have s0:=d0;have s1:=d1;clear d3 d4 a2 a3 a4
 go_region_held3 (fun W'=>W'.cell? ⟨b,0,none⟩=some (.slice A n c)∧W'.cell? ⟨b,1,none⟩=some (.int .i64 i))
  (first | (with_reducible exact⟨d0,d1⟩) | (with_reducible exact⟨a0,a1⟩) | (with_reducible exact⟨m0,m1⟩) | (with_reducible exact⟨n0,n1⟩) | (with_reducible exact⟨s0,s1⟩))
  (first
   | (go_at_call 101;((with_reducible refine(KP.out _ HC.out.drew.rd).mono ?_));rintro e w2 ⟨A2,c2,rfl,hb2,hk2⟩;have HK2:=zz (HC.out.drew.below hb2);have HG:=zz (HK2.out.alloc 38 (cellsX x A2 c2) (by simp));have HXK:=zz (hk2.to (lo':=w.heap.size+1) (hi':=w2.heap.size) (by exact q2) nR);obtain⟨m0,m1,_⟩:=HK2.out.rd.five;have HD0:=zz (HK2.out.alloc 38 zeroXs (by simp));obtain⟨n0,n1,_⟩:=HD0.out.rd.five;obtain⟨s0,s1,_⟩:=HG.out.rd.five)
   | (go_at_call 101;((with_reducible refine(KP.out _ (HC.out.alloc 38 zeroXs (by simp)).drew.rd).mono ?_));rintro e w2 ⟨A2,c2,rfl,hb2,hk2⟩;have HK2:=zz ((HC.out.alloc 38 zeroXs (by simp)).drew.below hb2);have HG:=zz (HK2.out.put5 0 _ _ _ _ _ _ rfl (.int .i64 x.kind) (.int .i64 x.n) (.string ⟨x.name.toArray⟩) (.string ⟨x.op.toArray⟩) (.slice A2 x.kids.length c2));have HXK:=zz (hk2.to (lo':=w.heap.size+1) (hi':=w2.heap.size) (by simp;omega) nR);have HXK2:=zz ((hk2.put5 (c:=w1.heap.size) (fun hp=>by have h9:w1.heap.size+1≤w1.heap.size:=(by simpa using hp.1);omega) (.int .i64 x.kind) (.int .i64 x.n) (.string ⟨x.name.toArray⟩) (.string ⟨x.op.toArray⟩) (.slice A2 x.kids.length c2)).to (lo':=w.heap.size+1) (hi':=w2.heap.size) (by simp;omega) nR);obtain⟨m0,m1,_⟩:=HK2.out.rd.five;obtain⟨s0,s1,_⟩:=HG.out.rd.five;obtain⟨p0,p1,p2,p3,p4⟩:=(HK2.out.box 0 _ zeroXs rfl).all5;obtain⟨o0,o1,o2,o3,o4⟩:=(HK2.out.box 0 _ zeroXs rfl).fre5))
 ·obtain⟨W,HW,HKX,hW⟩:∃ W,Hid (Cx b w W A n c l i 0 [(w2.heap.size,cellsX x A2 c2),(w.heap.size,zeroXs)])∧Hid (KidsX (FrX (w.heap.size+1) w2.heap.size) W A2 x∧w2.heap.size≤W.heap.size)∧W=w2.alloc (.cells #[x.kind,x.n,x.name,x.op,.slice A2 x.kids.length c2] 38):=⟨_,HG,zz ⟨HXK.out.allocX (fun k hk=>hk.2) _,by simp⟩,rfl⟩
  rw[←hW];clear hW HG HXK HD0 HK2 m0 m1 n0 n1 s0 s1 d0 d1 d2 a0 a1 q0 q1 q2;obtain⟨d0,d1,d2,d3,d4⟩:=HW.out.rd.five;obtain⟨q0,q1,q2,q3⟩:=HW.out.two;obtain⟨g0,g1,g2,g3,g4⟩:=(HW.out.box 1 w.heap.size zeroXs rfl).all5;obtain⟨j0,j1,j2,j3,j4⟩:=(HW.out.box 1 w.heap.size zeroXs rfl).fre5;obtain⟨y0,y1,y2,y3,y4⟩:=(HW.out.box 0 _ (cellsX x A2 c2) rfl).all5;go_wp2_with (first | (go_at_call 100;go_must ((with_reducible refine(KM.out _ (HW.out.place j j rfl HJ.out).rd).mono ?_);rintro e w5 ⟨rfl,hs5⟩;have HS:=zz ((HW.out.place j j rfl HJ.out).call hs5);have HKS:=zz (((HKX.out.1.over (fun q hq=>Below.heap_setCell _ _ _ _ (by have:=hq.1;have:=HW.out.lt;show q≠b;omega))).grownX hs5.1 (fun q hq=>⟨Nat.lt_of_lt_of_le hq.2 (by have:=HKX.out.2;simpa[World.setCell] using this),by have:=hq.1;have:=HW.out.lt;omega⟩)).to (hi':=w5.heap.size) nR (by have h1:=HKX.out.2;have h2:=hs5.1.size;simp[World.setCell] at h2;omega));clear hs5;obtain⟨d0,d1,d2,d3,d4⟩:=HS.out.rd.five;obtain⟨q0,q1,q2,q3⟩:=HS.out.two;obtain⟨g0,g1,g2,g3,g4⟩:=(HS.out.box 1 w.heap.size zeroXs rfl).all5;obtain⟨j0,j1,j2,j3,j4⟩:=(HS.out.box 1 w.heap.size zeroXs rfl).fre5;obtain⟨y0,y1,y2,y3,y4⟩:=(HS.out.box 0 _ (cellsX x A2 c2) rfl).all5)) | (go_at_call 81;go_must ((with_reducible refine(KY.out _ _ _ (HKS.out.to (Nat.le_succ _) nR)).mono ?_);rintro e w6 ⟨rfl,hb6⟩;have HY:=zz (HS.out.below hb6);have HKY:=zz (And.intro (HKS.out.over (fun q hq=>hb6.block q hq.2)) hb6.size);clear hb6;obtain⟨d0,d1,d2,d3,d4⟩:=HY.out.rd.five;obtain⟨q0,q1,q2,q3⟩:=HY.out.two;obtain⟨g0,g1,g2,g3,g4⟩:=(HY.out.box 1 w.heap.size zeroXs rfl).all5;obtain⟨j0,j1,j2,j3,j4⟩:=(HY.out.box 1 w.heap.size zeroXs rfl).fre5;obtain⟨y0,y1,y2,y3,y4⟩:=(HY.out.box 0 _ (cellsX x A2 c2) rfl).all5)) | (go_at_call 17;go_must ((with_reducible refine(KR.out _ (HY.out.place k k rfl HK.out).rd).mono ?_);rintro e w7 ⟨rfl,hs7⟩;have HZ:=zz ((HY.out.place k k rfl HK.out).call hs7);clear hs7;obtain⟨d0,d1,d2,d3,d4⟩:=HZ.out.rd.five;obtain⟨q0,q1,q2,q3⟩:=HZ.out.two;obtain⟨g0,g1,g2,g3,g4⟩:=(HZ.out.box 1 w.heap.size zeroXs rfl).all5;obtain⟨j0,j1,j2,j3,j4⟩:=(HZ.out.box 1 w.heap.size zeroXs rfl).fre5;obtain⟨y0,y1,y2,y3,y4⟩:=(HZ.out.box 0 _ (cellsX x A2 c2) rfl).all5)));have HE:=HZ.out.put5 1 w.heap.size _ _ _ _ _ rfl (.int .i64 x.kind) (.int .i64 x.n) (.string ⟨x.name.toArray⟩) (.string ⟨x.op.toArray⟩) (.slice A2 x.kids.length c2);obtain⟨r0,r1,r2,r3,r4⟩:=(HE.box 1 w.heap.size _ rfl).all5;exact bodyPost_ret (v:= .agg #[x.kind,x.n,x.name,x.op,.slice A2 x.kids.length c2]) (by simp[results,Tryz.results59,go_sem,r0,r1,r2,r3,r4]) rfl ⟨A2,c2,rfl,HE.step⟩
 ·obtain⟨W,HW,HKX,hW⟩:∃ W,Hid (Cx b w W A n c l i 0 [(w1.heap.size,cellsX x A2 c2),(w.heap.size,zeroXs)])∧Hid (KidsX (FrX (w.heap.size+1) w2.heap.size) W A2 x∧w2.heap.size≤W.heap.size)∧W=((((w2.setCell ⟨w1.heap.size,0,none⟩ (.int .i64 x.kind)).setCell ⟨w1.heap.size,1,none⟩ (.int .i64 x.n)).setCell ⟨w1.heap.size,2,none⟩ (.string ⟨x.name.toArray⟩)).setCell ⟨w1.heap.size,3,none⟩ (.string ⟨x.op.toArray⟩)).setCell ⟨w1.heap.size,4,none⟩ (.slice A2 x.kids.length c2):=⟨_,HG,zz ⟨HXK2.out,by simp[World.setCell]⟩,rfl⟩
  rw[←hW];clear hW HG HXK HXK2 p0 p1 p2 p3 p4 o0 o1 o2 o3 o4 HK2 m0 m1 n0 n1 s0 s1 d0 d1 d2 a0 a1 q0 q1 q2;obtain⟨d0,d1,d2,d3,d4⟩:=HW.out.rd.five;obtain⟨q0,q1,q2,q3⟩:=HW.out.two;obtain⟨g0,g1,g2,g3,g4⟩:=(HW.out.box 1 w.heap.size zeroXs rfl).all5;obtain⟨j0,j1,j2,j3,j4⟩:=(HW.out.box 1 w.heap.size zeroXs rfl).fre5;obtain⟨y0,y1,y2,y3,y4⟩:=(HW.out.box 0 _ (cellsX x A2 c2) rfl).all5;go_wp2_with (first | (go_at_call 100;go_must ((with_reducible refine(KM.out _ (HW.out.place j j rfl HJ.out).rd).mono ?_);rintro e w5 ⟨rfl,hs5⟩;have HS:=zz ((HW.out.place j j rfl HJ.out).call hs5);have HKS:=zz (((HKX.out.1.over (fun q hq=>Below.heap_setCell _ _ _ _ (by have:=hq.1;have:=HW.out.lt;show q≠b;omega))).grownX hs5.1 (fun q hq=>⟨Nat.lt_of_lt_of_le hq.2 (by have:=HKX.out.2;simpa[World.setCell] using this),by have:=hq.1;have:=HW.out.lt;omega⟩)).to (hi':=w5.heap.size) nR (by have h1:=HKX.out.2;have h2:=hs5.1.size;simp[World.setCell] at h2;omega));clear hs5;obtain⟨d0,d1,d2,d3,d4⟩:=HS.out.rd.five;obtain⟨q0,q1,q2,q3⟩:=HS.out.two;obtain⟨g0,g1,g2,g3,g4⟩:=(HS.out.box 1 w.heap.size zeroXs rfl).all5;obtain⟨j0,j1,j2,j3,j4⟩:=(HS.out.box 1 w.heap.size zeroXs rfl).fre5;obtain⟨y0,y1,y2,y3,y4⟩:=(HS.out.box 0 _ (cellsX x A2 c2) rfl).all5)) | (go_at_call 81;go_must ((with_reducible refine(KY.out _ _ _ (HKS.out.to (Nat.le_succ _) nR)).mono ?_);rintro e w6 ⟨rfl,hb6⟩;have HY:=zz (HS.out.below hb6);have HKY:=zz (And.intro (HKS.out.over (fun q hq=>hb6.block q hq.2)) hb6.size);clear hb6;obtain⟨d0,d1,d2,d3,d4⟩:=HY.out.rd.five;obtain⟨q0,q1,q2,q3⟩:=HY.out.two;obtain⟨g0,g1,g2,g3,g4⟩:=(HY.out.box 1 w.heap.size zeroXs rfl).all5;obtain⟨j0,j1,j2,j3,j4⟩:=(HY.out.box 1 w.heap.size zeroXs rfl).fre5;obtain⟨y0,y1,y2,y3,y4⟩:=(HY.out.box 0 _ (cellsX x A2 c2) rfl).all5)) | (go_at_call 17;go_must ((with_reducible refine(KR.out _ (HY.out.place k k rfl HK.out).rd).mono ?_);rintro e w7 ⟨rfl,hs7⟩;have HZ:=zz ((HY.out.place k k rfl HK.out).call hs7);clear hs7;obtain⟨d0,d1,d2,d3,d4⟩:=HZ.out.rd.five;obtain⟨q0,q1,q2,q3⟩:=HZ.out.two;obtain⟨g0,g1,g2,g3,g4⟩:=(HZ.out.box 1 w.heap.size zeroXs rfl).all5;obtain⟨j0,j1,j2,j3,j4⟩:=(HZ.out.box 1 w.heap.size zeroXs rfl).fre5;obtain⟨y0,y1,y2,y3,y4⟩:=(HZ.out.box 0 _ (cellsX x A2 c2) rfl).all5)));have HE:=HZ.out.put5 1 w.heap.size _ _ _ _ _ rfl (.int .i64 x.kind) (.int .i64 x.n) (.string ⟨x.name.toArray⟩) (.string ⟨x.op.toArray⟩) (.slice A2 x.kids.length c2);obtain⟨r0,r1,r2,r3,r4⟩:=(HE.box 1 w.heap.size _ rfl).all5;exact bodyPost_ret (v:= .agg #[x.kind,x.n,x.name,x.op,.slice A2 x.kids.length c2]) (by simp[results,Tryz.results59,go_sem,r0,r1,r2,r3,r4]) rfl ⟨A2,c2,rfl,HE.step⟩
theorem y8a (b:Nat) (w:World) (A:OA) (n c:Nat) (l:List Tok) (k o:Nat) (h:RdS b w A n c l k o):
  Cz 59 #[pP b] w (CondS b w A n c l (gate o k (condF l))):=by
 cases hi:isO l 4 [40] k o with
 | false=>exact x02 b w A n c l k o h hi
 | true=>
   obtain⟨rfl,hi2⟩:=z16 (by decide) hi;have hkl:=z1q hi2 (by decide);have hlen:=h.len;have hk1:k+1≤l.length:=hkl;have e0:=z6g hi;have KN:=needC b A n c l 4 (by decide) ⟨#[40]⟩ k 0 (congrArg Rz.at e0) (congrArg Rz.err e0)
   have e1:gate 0 k (condF l)=(exZ (exR l (k+1))).then fun x j=>(needF l 4 [41] j).then fun _ m=>if mayX x 0 then .ok x m else .bad k true:=by
    rw[z0f];unfold condF;have:needF l 4 [40] k= .ok () (k+1):=e0;rw[this];rfl
   rw[e1]
   cases hr:exR l (k+1) with
   | bad j er=>
     have hb:=z3j hk1;rw[hr] at hb;have hw:=hb.within (Nat.le_refl 1) hk1;have her:=hw.2.2;have e4:=z09 (α:=Unit) (o:=er) (k:=j) (F:=needF l 4 [41]) (by omega);have KR:RefC b A n c l er j 0 er:=zz fun w' h'=>(z18 er (by omega) b w' A n c l j 0 h').mono fun e w2 h=>⟨h.1,h.2.2,h.2.1⟩
     refine(y84 b w A n c l k (k+1) exNone j er h (by have:=hw.2.1;omega) (by omega) KN (x15 hr) KR (needC b A n c l 4 (by decide) ⟨#[41]⟩ j er e4.2 e4.1)).mono fun e w' hs=>?_
     obtain⟨A2,c2,he,hs⟩:=hs;refine⟨exNone,A2,c2,he,?_,fun y m hy=>by cases hy⟩;show StepS b w A n c l j (if (er==8)=true then 8 else 1) w';rw[show (if (er==8)=true then 8 else 1)=er by rcases her with rfl | rfl <;> rfl];exact hs
   | ok x j=>
     obtain⟨hsx,hnx,hj1,hj2⟩:=y76 h hk1 hr;show Calls _ _ _ _ (CondS b w A n c l ((needF l 4 [41] j).then fun _ m=>if mayX x 0 then .ok x m else .bad k true))
     cases hq:isO l 4 [41] j 0 with
     | false=>
       have e5:=z90 (l:=l) (kd:=4) (s:=[41]) (k:=j) (.inl rfl) hq;have e6:needF l 4 [41] j= .bad j false:=by unfold needF;exact if_neg (by rw[←z1v,hq];decide)
       rw[e6];refine(y65 b w A n c l k (k+1) x j h hj2 KN (y25 hr) (needC b A n c l 4 (by decide) ⟨#[41]⟩ j 0 e5.1 e5.2.1)).mono fun e w' hs=>?_
       obtain⟨A2,c2,he,hs⟩:=hs;exact⟨x,A2,c2,he,hs,fun y m hy=>by cases hy⟩
     | true=>
       have e5:=z6g hq;have e6:needF l 4 [41] j= .ok () (j+1):=e5;rw[e6];show Calls _ _ _ _ (CondS b w A n c l (if mayX x 0 then .ok x (j+1) else .bad k true));have KM:=needC b A n c l 4 (by decide) ⟨#[41]⟩ j 0 (congrArg Rz.at e5) (congrArg Rz.err e5)
       have KY:Hid (∀ w' A2 c2,KidsX (FrX w.heap.size w'.heap.size) w' A2 x→Cz 81 #[.agg #[x.kind,x.n,x.name,x.op,.slice A2 x.kids.length c2]] w' fun e w2=>e= .returned (.bool (mayX x 0))∧Below w'.heap.size w' w2):=zz fun w' A2 c2 hk=>by
        have:=y4m x A2 c2 w' (hk.wide fun _ hq=>hq.2) hnx hsx;rw[z4q] at this;exact this
       cases hm:mayX x 0 with
       | true=>
         rw[hm] at KY;refine(x01 b w A n c l k (k+1) x j h hj2 KN (y25 hr) KM KY).mono fun e w' hs=>?_
         obtain⟨A2,c2,he,hs,hk⟩:=hs;exact⟨x,A2,c2,he,hs,fun y m hy=>by injection hy with hy;subst hy;exact⟨rfl,hk⟩⟩
       | false=>
         rw[hm] at KY;refine(y6a b w A n c l k (k+1) x j h hj2 KN (y25 hr) h.le KM KY (refC8 b A n c l k 0 rfl)).mono fun e w' hs=>?_
         obtain⟨A2,c2,he,hs⟩:=hs;exact⟨x,A2,c2,he,hs,fun y m hy=>by cases hy⟩
theorem z8z (d:Nat) (b:Nat) (w:World) (A:OA) (n c:Nat) (l:List Tok) (k o:Nat) (h:RdS b w A n c l k o):
  Cz 102 #[pP b,d] w fun e w'=>e= .returned (.tuple #[])∧StepS b w A n c l (gate o k (braceF l d)).at (gate o k (braceF l d)).err w':=by
 have H:=zz (Cx.start h);have KI:Hid (∀ w',RdS b w' A n c l k o→Cz 103 #[pP b,iI 4,.string ⟨#[123]⟩] w' fun e w2=>e= .returned (.bool (isO l 4 [123] k o))∧Below w'.heap.size w' w2):=zz fun w' h'=>z8a 4 ⟨#[123]⟩ b w' A n c l k o h'
 by_cases h16:d=16
 ·have b1:((d:Int)==16)=true:=by simp;omega
  have b2:(d==16)=true:=by simp;omega
  cases hi:isO l 4 [123] k o with
  | true=>
    obtain⟨rfl,hi2⟩:=z16 (by decide) hi;have e1:gate 0 k (braceF l d)= .bad k true:=by rw[z0f];unfold braceF;rw[if_pos ⟨h16,hi2⟩]
    rw[e1];show Calls _ _ _ _ fun e w'=>e= .returned (.tuple #[])∧StepS b w A n c l k 8 w'
    have KR:=refC8 b A n c l k 0 rfl;have e4:=z09 (α:=Unit) (o:=8) (k:=k) (F:=needF l 4 [123]) (.inr rfl);have KM:=needC b A n c l 4 (by decide) ⟨#[123]⟩ k 8 e4.2 e4.1;rw[hi] at KI;have H16:=zz h16;clear h hi hi2 e1 e4 h16;go_enter Tryz.func102,Tryz.ntmps102;go_wp2_with (first | (go_at_call 103;go_must ((with_reducible refine(KI.out _ H.out.rd).mono ?_);rintro e w1 ⟨rfl,hb1⟩;have HC:=zz (H.out.below hb1);clear hb1)) | (go_at_call 17;go_must ((with_reducible refine(KR.out _ HC.out.rd).mono ?_);rintro e w2 ⟨rfl,hs2⟩;have HD:=zz (HC.out.call hs2);clear hs2)) | (go_at_call 100;go_must ((with_reducible refine(KM.out _ HD.out.rd).mono ?_);rintro e w3 ⟨rfl,hs3⟩;have HE:=zz (HD.out.call hs3);clear hs3)))
    go_end0
    exact⟨rfl,HE.out.step⟩
  | false=>
    have e1:gate o k (braceF l d)=gate o k (needF l 4 [123]):=by
     unfold gate braceF;by_cases ho:o=0
     ·subst ho
      rw[if_pos rfl,if_pos rfl,if_neg (fun e=>by rw[←z1v,hi] at e;exact absurd e.2 (by decide))]
     ·rw[if_neg ho,if_neg ho]
    rw[e1];have KM:=needC b A n c l 4 (by decide) ⟨#[123]⟩ k o rfl rfl;rw[show (⟨#[123]⟩:BA).data.toList=[123] from rfl] at KM;generalize (gate o k (needF l 4 [123])).at=j at KM ⊢;generalize (gate o k (needF l 4 [123])).err=o2 at KM ⊢;rw[hi] at KI;have H16:=zz h16;clear h hi e1 h16;go_enter Tryz.func102,Tryz.ntmps102;go_wp2_with (first | (go_at_call 103;go_must ((with_reducible refine(KI.out _ H.out.rd).mono ?_);rintro e w1 ⟨rfl,hb1⟩;have HC:=zz (H.out.below hb1);clear hb1)) | (go_at_call 100;go_must ((with_reducible refine(KM.out _ HC.out.rd).mono ?_);rintro e w3 ⟨rfl,hs3⟩;have HE:=zz (HC.out.call hs3);clear hs3)))
    go_end0
    exact⟨rfl,HE.out.step⟩
 ·have e1:gate o k (braceF l d)=gate o k (needF l 4 [123]):=by
   unfold gate braceF;by_cases ho:o=0
   ·subst ho
    rw[if_pos rfl,if_pos rfl,if_neg (fun e=>h16 e.1)]
   ·rw[if_neg ho,if_neg ho]
  rw[e1];have KM:=needC b A n c l 4 (by decide) ⟨#[123]⟩ k o rfl rfl;rw[show (⟨#[123]⟩:BA).data.toList=[123] from rfl] at KM;generalize (gate o k (needF l 4 [123])).at=j at KM ⊢;generalize (gate o k (needF l 4 [123])).err=o2 at KM ⊢;have b1:((d:Int)==16)=false:=by simp;omega
  have b2:(d==16)=false:=by simp;omega
  clear h e1 KI h16;go_enter Tryz.func102,Tryz.ntmps102;go_wp2_with (first | (go_at_call 100;go_must ((with_reducible refine(KM.out _ H.out.rd).mono ?_);rintro e w3 ⟨rfl,hs3⟩;have HE:=zz (H.out.call hs3);clear hs3)))
  go_end0
  exact⟨rfl,HE.out.step⟩
theorem z1k {α β:Type} (o k:Nat) (F:Nat→Rz α) (G:α→Nat→Rz β):gate o k (fun k=>(F k).then G)=(gate o k F).then G:=by unfold gate;split <;> rfl
theorem z1m {α β γ:Type} {R:Rz α} {x:α} (hx:∀ y j,R= .ok y j→y=x) (F:Nat→Rz β) (G:α→β→Nat→Rz γ):(R.then fun y i=>(F i).then (G y))=(gate R.err R.at F).then (G x):=by
 cases R with
 | ok y j=>rw[←hx y j rfl];rfl
 | bad j d=>cases d <;> rfl
theorem z33 {α β:Type} {R:Rz α} {x:α} (hx:∀ y j,R= .ok y j→y=x) (g:α→β):(R.then fun y j=> .ok (g y) j).at=R.at∧(R.then fun y j=> .ok (g y) j).err=R.err∧∀ y j,(R.then fun y j=> .ok (g y) j)= .ok y j→y=g x∧R= .ok x j:=by
 cases R with
 | ok y j=>rw[←hx y j rfl];exact⟨rfl,rfl,fun z i h=>by injection h with h1 h2;subst h1 h2;exact⟨rfl,rfl⟩⟩
 | bad j d=>exact⟨rfl,rfl,fun z i h=>by cases h⟩
theorem z97 {R:Rz Unit}:∀ y j,R= .ok y j→y=():=fun _ _ _=>rfl
def NwX (b lo hi:Nat):Nat→Prop:=fun q=>q<b∨(lo≤q∧q<hi)
theorem NwX.wide {b lo hi lo' hi':Nat} (h1:lo'≤lo) (h2:hi≤hi'):∀ q,NwX b lo hi q→NwX b lo' hi' q:=fun _ h=>h.imp id fun h=>⟨Nat.le_trans h1 h.1,Nat.lt_of_lt_of_le h.2 h2⟩
theorem NwX.cell {b lo hi:Nat} {w w':World} (hg:w.grownBy w' (some b)) (hb:b<lo) (hh:hi≤w.heap.size) (hl:lo≤w.heap.size):∀ p:Addr,NwX b lo hi p.block→w'.cell? p=w.cell? p:=fun p hp=>
 World.cell?_of_block (hg.block p.block (by rcases hp with h | h <;> omega) (fun e=>by injection e with e;rcases hp with h | h <;> omega))
def RowS (b:Nat) (w:World) (A:OA) (n c:Nat) (l:List Tok) (R:Rz (List Cm)) (e:Ending) (w':World):Prop:=
 ∃ (A':OA) (xs:List Cm) (c':Nat),e= .returned (.slice A' xs.length c')∧StepS b w A n c l R.at R.err w'∧(∀ y j,R= .ok y j→y=xs)∧(R.err=0→RowC (NwX b w.heap.size w'.heap.size) w' A' xs)
def RecC (b:Nat) (A:OA) (n c:Nat) (l:List Tok) (rec:Nat→Nat→Rz (List Cm)) (k0:Nat):Prop:=
 ∀ (d k o:Nat) (w':World),(o=0→k0≤k∧d≤16)→d≤100→RdS b w' A n c l k o→Cz 16 #[pP b,d] w' (RowS b w' A n c l (gate o k (rec d)))
def BlkC (b:Nat) (A:OA) (n c:Nat) (l:List Tok) (blk:Nat→Nat→Rz (List Cm)) (k0:Nat):Prop:=
 ∀ (d k o:Nat) (w':World),(o=0→k0≤k∧d≤16)→d≤99→RdS b w' A n c l k o→Cz 60 #[pP b,d] w' (RowS b w' A n c l (gate o k (blk d)))
theorem z3c {l:List Tok} {d k:Nat} {u:Unit} {j:Nat} (h:braceF l d k= .ok u j):j=k+1∧d≠16:=by
 unfold braceF at h
 split at h
 ·cases h
 ·rename_i hn
  unfold needF at h
  split at h
  ·rename_i ht
   injection h with _ h
   exact⟨h.symm,fun e=>hn ⟨e,ht⟩⟩
  ·cases h
theorem z0w {α:Type} {o k:Nat} {F:Nat→Rz α} (ho:o=0∨o=1∨o=8) (h:(gate o k F).err=0):o=0∧∃ x,F k= .ok x (gate o k F).at:=by
 rcases ho with rfl | ho
 ·refine⟨rfl,?_⟩
  rw[z0f] at h ⊢
  cases hf:F k with
  | ok x j=>exact⟨x,rfl⟩
  | bad j d=>rw[hf] at h;cases d <;> simp[Rz.err] at h
 ·rw[(z09 ho).1] at h;omega
theorem y64 (b:Nat) (A:OA) (n c:Nat) (l:List Tok) (rec:Nat→Nat→Rz (List Cm)) (k0:Nat) (HR:RecC b A n c l rec k0):BlkC b A n c l (blockF l rec) k0:=by
 intro d k o w hk hd h;have H:=zz (Cx.start h);have K1:Hid (∀ w',RdS b w' A n c l k o→Cz 102 #[pP b,d] w' fun e w2=>e= .returned (.tuple #[])∧StepS b w' A n c l (gate o k (braceF l d)).at (gate o k (braceF l d)).err w2):=zz fun w' h'=>z8z d b w' A n c l k o h'
 have hz:(gate o k (braceF l d)).err=0→k0≤(gate o k (braceF l d)).at∧d+1≤16:=fun he=>by
  obtain⟨ho,u,hu⟩:=z0w h.oks he;have h1:=z3c hu;have h2:=hk ho;omega
 have eR:gate o k (blockF l rec d)=(gate (gate o k (braceF l d)).err (gate o k (braceF l d)).at (rec (d+1))).then fun x j=>(needF l 4 [125] j).then fun _ m=> .ok x m:=by
  rw[←z1m (x:=()) z97 (rec (d+1)) (fun _ x j=>(needF l 4 [125] j).then fun _ m=> .ok x m),←z1k];rfl
 rw[eR];generalize gate o k (braceF l d)=R1 at K1 hz ⊢;have K2:Hid (∀ w',RdS b w' A n c l R1.at R1.err→Cz 16 #[pP b,iI ((d:Int)+1)] w' (RowS b w' A n c l (gate R1.err R1.at (rec (d+1))))):=zz fun w' h'=>HR (d+1) _ _ w' hz (by omega) h'
 generalize gate R1.err R1.at (rec (d+1))=R2 at K2 ⊢;have K3:=needC b A n c l 4 (by decide) ⟨#[125]⟩ R2.at R2.err rfl rfl;rw[show (⟨#[125]⟩:BA).data.toList=[125] from rfl] at K3;have HE:Hid (∀ xs,(∀ y j,R2= .ok y j→y=xs)→(R2.then fun x j=>(needF l 4 [125] j).then fun _ m=> .ok x m)=(gate R2.err R2.at (needF l 4 [125])).then fun _ m=> .ok xs m):=zz fun xs hx=>z1m hx (needF l 4 [125]) (fun x _ m=> .ok x m)
 have HZ:Hid ((gate R2.err R2.at (needF l 4 [125])).err=0→R2.err=0):=zz fun h=>(z0w R2.err_cases h).1
 generalize gate R2.err R2.at (needF l 4 [125])=R3 at K3 HE HZ;unfold RowS at K2;clear hz hk h HR eR;generalize (R2.then fun x j=>(needF l 4 [125] j).then fun _ m=>Rz.ok x m)=R at HE ⊢;unfold RowS;go_enter Tryz.func60,Tryz.ntmps60;go_wp2_with (first | (go_at_call 102;go_must ((with_reducible refine(K1.out _ H.out.rd).mono ?_);rintro e w1 ⟨rfl,hs1⟩;have HC:=zz (H.out.call hs1);clear hs1)) | (go_at_call 16;go_must ((with_reducible refine(K2.out _ HC.out.rd).mono ?_);rintro e w2 ⟨A2,xs,c2,rfl,hs2,hv2,hr2⟩;have HD:=zz (HC.out.call hs2);have HV:=zz hv2;have HR:=zz hr2;have HG2:=zz hs2;clear hs2 hv2 hr2)) | (go_at_call 100;go_must ((with_reducible refine(K3.out _ HD.out.rd).mono ?_);rintro e w3 ⟨rfl,hs3⟩;have HF:=zz (HD.out.call hs3);have HG3:=zz hs3;clear hs3)));go_ret;have e:=HE.out xs HV.out;have hm:=z33 (R:=R3) (x:=()) z97 (fun _=>xs);refine⟨A2,xs,c2,rfl,?_,?_,?_⟩
 ·rw[e,hm.1,hm.2.1];exact HF.out.step
 ·rw[e];exact fun y j h=>(hm.2.2 y j h).1
 ·rw[e,hm.2.1]
  intro h3;have hlt:=HC.out.lt;have h12:=HC.out.gr.size;have h23:=HG2.out.1.size;have h34:=HG3.out.1.size;exact(HR.out (HZ.out h3)).of (NwX.cell HG3.out.1 (by omega) nR h23) (NwX.wide h12 h34)
theorem Cx.put6 {b:Nat} {w W:World} {A:OA} {n c:Nat} {l:List Tok} {k o:Nat} {bs:List (Nat × List Value)} (h:Cx b w W A n c l k o bs) (i q:Nat) (u0 u1 u2 u3 u4 u5:Value) (hi:bs[i]?=some (q,[u0,u1,u2,u3,u4,u5])) (v0 v1 v2 v3 v4 v5:Value):
  Cx b w ((((((W.setCell ⟨q,0,none⟩ v0).setCell ⟨q,1,none⟩ v1).setCell ⟨q,2,none⟩ v2).setCell ⟨q,3,none⟩ v3).setCell ⟨q,4,none⟩ v4).setCell ⟨q,5,none⟩ v5) A n c l k o (bs.set i (q,[v0,v1,v2,v3,v4,v5])):=by
 have hl:=(List.getElem?_eq_some_iff.1 hi).1;have e:∀ x:Nat × List Value,(bs.set i x)[i]?=some x:=fun x=>List.getElem?_set_self hl
 have h0:=h.put i q _ hi 0 (by simp) v0;have h1:=h0.put i q _ (e _) 1 (by simp) v1;have h2:=h1.put i q _ (by rw[List.set_set];exact e _) 2 (by simp) v2;have h3:=h2.put i q _ (by rw[List.set_set,List.set_set];exact e _) 3 (by simp) v3;have h4:=h3.put i q _ (by rw[List.set_set,List.set_set,List.set_set];exact e _) 4 (by simp) v4;have h5:=h4.put i q _ (by rw[List.set_set,List.set_set,List.set_set,List.set_set];exact e _) 5 (by simp) v5;rw[List.set_set,List.set_set,List.set_set,List.set_set,List.set_set] at h5;exact h5
abbrev zeroR:List Value:=[oZ,oZ,oZ,oS,(),oZ]
abbrev PatC (b:Nat) (A:OA) (n c:Nat) (l:List Tok) (k o:Nat) (R:Rz (Int × Bs)):Prop:=Hid (∀ w',RdS b w' A n c l k o→Cz 132 #[pP b] w' fun e w2=>
 ∃ (z:Int) (s:Bs),e= .returned (.agg #[z,s])∧StepS b w' A n c l R.at R.err w2∧∀ y j,R= .ok y j→y=(z,s))
abbrev RwC (b:Nat) (A:OA) (n c:Nat) (l:List Tok) (told:Bool) (k o:Nat) (R:Rz Int):Prop:=Hid (∀ w',RdS b w' A n c l k o→Cz 133 #[pP b,.bool told] w' fun e w2=>
 ∃ (z:Int),e= .returned (.int .i64 z)∧StepS b w' A n c l R.at R.err w2∧∀ y j,R= .ok y j→y=z)
abbrev BloC (b:Nat) (A:OA) (n c:Nat) (l:List Tok) (d k o:Nat) (R:Rz (List Cm)):Prop:=Hid (∀ w',RdS b w' A n c l k o→Cz 60 #[pP b,d] w' fun e w2=>
 ∃ (A':OA) (xs:List Cm) (c':Nat),e= .returned (.slice A' xs.length c')∧StepS b w' A n c l R.at R.err w2∧(∀ y j,R= .ok y j→y=xs)∧(R.err=0→RowC (NwX b w'.heap.size w2.heap.size) w2 A' xs))
def RulP (b:Nat) (w:World) (A:OA) (n c:Nat) (l:List Tok) (pl:Int) (Q:Int→Int→Int→Bs→Prop) (R3:Rz (List Cm)) (e:Ending) (w':World):Prop:=
 ∃ (kd q pk:Int) (pt:Bs) (A':OA) (xs:List Cm) (c':Nat),e= .returned (.agg #[kd,q,pk,pt,.slice A' xs.length c',pl])∧StepS b w A n c l R3.at R3.err w'∧Q kd q pk pt∧(∀ y j,R3= .ok y j→y=xs)∧(R3.err=0→RowC (NwX b w.heap.size w'.heap.size) w' A' xs)
theorem NwX.set {b lo hi m:Nat} {W:World} {u:Value} {i:Nat} (hm:m<lo) (hb:b≤m):∀ p:Addr,NwX b lo hi p.block→(W.setCell ⟨m,i,none⟩ u).cell? p=W.cell? p:=fun p hp=>
 World.cell?_of_block (Below.heap_setCell _ _ _ _ (by show p.block≠m;rcases hp with h | h <;> omega))
theorem RowC.box6 {b lo hi m:Nat} {W:World} {A:OA} {xs:List Cm} (h:RowC (NwX b lo hi) W A xs) (hm:m<lo) (hb:b≤m) (v0 v1 v2 v3 v4 v5:Value):
  RowC (NwX b lo hi) ((((((W.setCell ⟨m,0,none⟩ v0).setCell ⟨m,1,none⟩ v1).setCell ⟨m,2,none⟩ v2).setCell ⟨m,3,none⟩ v3).setCell ⟨m,4,none⟩ v4).setCell ⟨m,5,none⟩ v5) A xs:=
 (((((h.of (NwX.set hm hb) fun _ h=>h).of (NwX.set hm hb) fun _ h=>h).of (NwX.set hm hb) fun _ h=>h).of (NwX.set hm hb) fun _ h=>h).of (NwX.set hm hb) fun _ h=>h).of (NwX.set hm hb) fun _ h=>h
theorem x00 (b:Nat) (w:World) (A:OA) (n c:Nat) (l:List Tok) (d k o:Nat) (h:RdS b w A n c l k o) (t0 t1:Tok) (R3:Rz (List Cm)) (R1:Rz Tok) (R2:Rz (Int × Bs))
  (KN:NextC b A n c l k o t0) (KT:TakeC b A n c l 5 ⟨#[105]⟩ k o true (k+1)) (KK:KindC b A n c l 2 (k+1) o R1) (KX:NextC b A n c l R1.at R1.err t1) (ht:t1.kind=5) (KP:PatC b A n c l R1.at R1.err R2) (KB:BloC b A n c l d R2.at R2.err R3):
  Cz 104 #[pP b,d] w (RulP b w A n c l t0.pl (fun kd q pk pt=>(∀ y j,R1= .ok y j→y.n=q)∧kd=1∧∀ y j,R2= .ok y j→y=(pk,pt)) R3):=by
 have H:=zz (Cx.start h);have hlt:=h.lt;unfold NextC at KN KX;generalize t0.pl=pl at KN ⊢;generalize t1.kind=kd1 at KX ht;have b1:(kd1==5)=true:=by simpa using ht
 clear h ht;unfold RulP;have tf0:=tokF0;have tf2:=tokF2;have tf4:=tokF4;go_enter Tryz.func104,Tryz.ntmps104
 go_wp2_with (first
  | (go_at_call 31;((with_reducible refine(KN.out _ (H.out.rd.box _)).mono ?_);rintro e w1 ⟨A1,c1,rfl,hb1,hr1⟩;have HA:=zz (((H.out.alloc 65 zeroR (by simp)).below hb1).alloc 65 [oZ,iI (-1),oZ,oS,(),pl] (by simp));obtain⟨u0,u1,u2,u3,u4,u5⟩:=(HA.out.box 0 _ _ rfl).all6;obtain⟨f0,f1,f2,f3,f4,f5⟩:=(HA.out.box 0 _ _ rfl).fre6;obtain⟨q0,q1,q2,q3⟩:=HA.out.two;clear hb1 hr1 KN))
  | (go_at_call 61;go_must ((with_reducible refine(KT.out _ HA.out.rd).mono ?_);rintro e w2 ⟨rfl,hs2⟩;have HB:=zz (HA.out.call hs2);obtain⟨u0,u1,u2,u3,u4,u5⟩:=(HB.out.box 0 _ _ rfl).all6;obtain⟨f0,f1,f2,f3,f4,f5⟩:=(HB.out.box 0 _ _ rfl).fre6;obtain⟨q0,q1,q2,q3⟩:=HB.out.two;clear hs2))
  | (go_at_call 58;go_must ((with_reducible refine(KK.out _ HB.out.rd).mono ?_);rintro e w3 ⟨t,A2,c2,rfl,hs3,hr3,hv3⟩;have HC:=zz (HB.out.call hs3);have HV:=zz hv3;obtain⟨u0,u1,u2,u3,u4,u5⟩:=(HC.out.box 0 _ _ rfl).all6;obtain⟨f0,f1,f2,f3,f4,f5⟩:=(HC.out.box 0 _ _ rfl).fre6;obtain⟨q0,q1,q2,q3⟩:=HC.out.two;clear hs3 hr3 hv3))
  | (go_at_call 31;go_must ((with_reducible refine(KX.out _ (HC.out.put 0 _ _ rfl 1 (by simp) (.int .i64 t.n)).rd).mono ?_);rintro e w4 ⟨A4,c4,rfl,hb4,hr4⟩;have HD:=zz ((HC.out.put 0 _ _ rfl 1 (by simp) (.int .i64 t.n)).below hb4);obtain⟨u0,u1,u2,u3,u4,u5⟩:=(HD.out.box 0 _ _ rfl).all6;obtain⟨f0,f1,f2,f3,f4,f5⟩:=(HD.out.box 0 _ _ rfl).fre6;obtain⟨q0,q1,q2,q3⟩:=HD.out.two;clear hb4 hr4))
  | (go_at_call 132;go_must ((with_reducible refine(KP.out _ HD.out.rd).mono ?_);rintro e w5 ⟨z,s,rfl,hs5,hv5⟩;have HE:=zz (HD.out.call hs5);have HW:=zz hv5;obtain⟨u0,u1,u2,u3,u4,u5⟩:=(HE.out.box 0 _ _ rfl).all6;obtain⟨f0,f1,f2,f3,f4,f5⟩:=(HE.out.box 0 _ _ rfl).fre6;obtain⟨q0,q1,q2,q3⟩:=HE.out.two;clear hs5 hv5))
  | (go_at_call 60;go_must ((with_reducible refine(KB.out _ (((HE.out.put 0 _ _ rfl 0 (by simp) (.int .i64 1)).put 0 _ _ rfl 2 (by simp) (.int .i64 z)).put 0 _ _ rfl 3 (by simp) (.string ⟨s.toArray⟩)).rd).mono ?_);rintro e w6 ⟨A6,xs,c6,rfl,hs6,hv6,hr6⟩;have HF0:=zz (((HE.out.put 0 _ _ rfl 0 (by simp) (.int .i64 1)).put 0 _ _ rfl 2 (by simp) (.int .i64 z)).put 0 _ _ rfl 3 (by simp) (.string ⟨s.toArray⟩));have HF:=zz (HF0.out.call hs6);have HX:=zz hv6;have HR:=zz hr6;have HG6:=zz hs6;obtain⟨u0,u1,u2,u3,u4,u5⟩:=(HF.out.box 0 _ _ rfl).all6;obtain⟨f0,f1,f2,f3,f4,f5⟩:=(HF.out.box 0 _ _ rfl).fre6;obtain⟨q0,q1,q2,q3⟩:=HF.out.two;obtain⟨g0,g1,g2,g3,g4,g5⟩:=(HF.out.box 1 _ zeroR rfl).all6;obtain⟨j0,j1,j2,j3,j4,j5⟩:=(HF.out.box 1 _ zeroR rfl).fre6;clear hs6 hv6 hr6)))
 have HL:=HF.out.put 0 _ _ rfl 4 (by simp) (.slice A6 xs.length c6);have HE2:=HL.put6 1 w.heap.size _ _ _ _ _ _ rfl (.int .i64 1) (.int .i64 t.n) (.int .i64 z) (.string ⟨s.toArray⟩) (.slice A6 xs.length c6) (.int .i64 pl);obtain⟨r0,r1,r2,r3,r4,r5⟩:=(HE2.box 1 w.heap.size _ rfl).all6;refine bodyPost_ret (v:= .agg #[iI 1,t.n,z,s,.slice A6 xs.length c6,pl]) (by simp[results,Tryz.results104,go_sem,r0,r1,r2,r3,r4,r5]) rfl ⟨1,t.n,z,s,A6,xs,c6,rfl,HE2.step,⟨fun y j hy=>by rw[HV.out y j hy],rfl,HW.out⟩,HX.out,fun h3=>?_⟩;have hz:=HG6.out.1.size;have hz0:=HF0.out.two;refine((((HR.out h3).of (NwX.set ?_ ?_) fun _ h=>h).box6 ?_ ?_ _ _ _ _ _ _)).of (fun _ _=>rfl) (NwX.wide ?_ ?_) <;> simp[World.setCell] at hz hz0 ⊢ <;> omega
theorem x1k (b:Nat) (w:World) (A:OA) (n c:Nat) (l:List Tok) (d k o:Nat) (h:RdS b w A n c l k o) (t0 t1:Tok) (R3:Rz (List Cm)) (R1:Rz Tok) (R2:Rz Int)
  (KN:NextC b A n c l k o t0) (KT:TakeC b A n c l 5 ⟨#[105]⟩ k o true (k+1)) (KK:KindC b A n c l 2 (k+1) o R1) (KX:NextC b A n c l R1.at R1.err t1) (ht:¬ t1.kind=5) (KP:RwC b A n c l true R1.at R1.err R2) (KB:BloC b A n c l d R2.at R2.err R3):
  Cz 104 #[pP b,d] w (RulP b w A n c l t0.pl (fun kd q pk pt=>(∀ y j,R1= .ok y j→y.n=q)∧pk=0∧pt=[]∧∀ y j,R2= .ok y j→y=kd) R3):=by
 have H:=zz (Cx.start h);have hlt:=h.lt;unfold NextC at KN KX;generalize t0.pl=pl at KN ⊢;generalize t1.kind=kd1 at KX ht;have b1:(kd1==5)=false:=by simpa using ht
 clear h ht;unfold RulP;have tf0:=tokF0;have tf2:=tokF2;have tf4:=tokF4;go_enter Tryz.func104,Tryz.ntmps104
 go_wp2_with (first
  | (go_at_call 31;((with_reducible refine(KN.out _ (H.out.rd.box _)).mono ?_);rintro e w1 ⟨A1,c1,rfl,hb1,hr1⟩;have HA:=zz (((H.out.alloc 65 zeroR (by simp)).below hb1).alloc 65 [oZ,iI (-1),oZ,oS,(),pl] (by simp));obtain⟨u0,u1,u2,u3,u4,u5⟩:=(HA.out.box 0 _ _ rfl).all6;obtain⟨f0,f1,f2,f3,f4,f5⟩:=(HA.out.box 0 _ _ rfl).fre6;obtain⟨q0,q1,q2,q3⟩:=HA.out.two;clear hb1 hr1 KN))
  | (go_at_call 61;go_must ((with_reducible refine(KT.out _ HA.out.rd).mono ?_);rintro e w2 ⟨rfl,hs2⟩;have HB:=zz (HA.out.call hs2);obtain⟨u0,u1,u2,u3,u4,u5⟩:=(HB.out.box 0 _ _ rfl).all6;obtain⟨f0,f1,f2,f3,f4,f5⟩:=(HB.out.box 0 _ _ rfl).fre6;obtain⟨q0,q1,q2,q3⟩:=HB.out.two;clear hs2))
  | (go_at_call 58;go_must ((with_reducible refine(KK.out _ HB.out.rd).mono ?_);rintro e w3 ⟨t,A2,c2,rfl,hs3,hr3,hv3⟩;have HC:=zz (HB.out.call hs3);have HV:=zz hv3;obtain⟨u0,u1,u2,u3,u4,u5⟩:=(HC.out.box 0 _ _ rfl).all6;obtain⟨f0,f1,f2,f3,f4,f5⟩:=(HC.out.box 0 _ _ rfl).fre6;obtain⟨q0,q1,q2,q3⟩:=HC.out.two;clear hs3 hr3 hv3))
  | (go_at_call 31;go_must ((with_reducible refine(KX.out _ (HC.out.put 0 _ _ rfl 1 (by simp) (.int .i64 t.n)).rd).mono ?_);rintro e w4 ⟨A4,c4,rfl,hb4,hr4⟩;have HD:=zz ((HC.out.put 0 _ _ rfl 1 (by simp) (.int .i64 t.n)).below hb4);obtain⟨u0,u1,u2,u3,u4,u5⟩:=(HD.out.box 0 _ _ rfl).all6;obtain⟨f0,f1,f2,f3,f4,f5⟩:=(HD.out.box 0 _ _ rfl).fre6;obtain⟨q0,q1,q2,q3⟩:=HD.out.two;clear hb4 hr4))
  | (go_at_call 133;go_must ((with_reducible refine(KP.out _ HD.out.rd).mono ?_);rintro e w5 ⟨z,rfl,hs5,hv5⟩;have HE:=zz (HD.out.call hs5);have HW:=zz hv5;obtain⟨u0,u1,u2,u3,u4,u5⟩:=(HE.out.box 0 _ _ rfl).all6;obtain⟨f0,f1,f2,f3,f4,f5⟩:=(HE.out.box 0 _ _ rfl).fre6;obtain⟨q0,q1,q2,q3⟩:=HE.out.two;clear hs5 hv5))
  | (go_at_call 60;go_must ((with_reducible refine(KB.out _ (HE.out.put 0 _ _ rfl 0 (by simp) (.int .i64 z)).rd).mono ?_);rintro e w6 ⟨A6,xs,c6,rfl,hs6,hv6,hr6⟩;have HF0:=zz (HE.out.put 0 _ _ rfl 0 (by simp) (.int .i64 z));have HF:=zz (HF0.out.call hs6);have HX:=zz hv6;have HR:=zz hr6;have HG6:=zz hs6;obtain⟨u0,u1,u2,u3,u4,u5⟩:=(HF.out.box 0 _ _ rfl).all6;obtain⟨f0,f1,f2,f3,f4,f5⟩:=(HF.out.box 0 _ _ rfl).fre6;obtain⟨q0,q1,q2,q3⟩:=HF.out.two;obtain⟨g0,g1,g2,g3,g4,g5⟩:=(HF.out.box 1 _ zeroR rfl).all6;obtain⟨j0,j1,j2,j3,j4,j5⟩:=(HF.out.box 1 _ zeroR rfl).fre6;clear hs6 hv6 hr6)))
 have HL:=HF.out.put 0 _ _ rfl 4 (by simp) (.slice A6 xs.length c6);have HE2:=HL.put6 1 w.heap.size _ _ _ _ _ _ rfl (.int .i64 z) (.int .i64 t.n) oZ oS (.slice A6 xs.length c6) (.int .i64 pl);obtain⟨r0,r1,r2,r3,r4,r5⟩:=(HE2.box 1 w.heap.size _ rfl).all6;refine bodyPost_ret (v:= .agg #[z,t.n,oZ,oS,.slice A6 xs.length c6,pl]) (by simp[results,Tryz.results104,go_sem,r0,r1,r2,r3,r4,r5]) rfl ⟨z,t.n,0,[],A6,xs,c6,rfl,HE2.step,⟨fun y j hy=>by rw[HV.out y j hy],rfl,rfl,HW.out⟩,HX.out,fun h3=>?_⟩;have hz:=HG6.out.1.size;have hz0:=HF0.out.two;refine((((HR.out h3).of (NwX.set ?_ ?_) fun _ h=>h).box6 ?_ ?_ _ _ _ _ _ _)).of (fun _ _=>rfl) (NwX.wide ?_ ?_) <;> simp[World.setCell] at hz hz0 ⊢ <;> omega
theorem x2s (b:Nat) (w:World) (A:OA) (n c:Nat) (l:List Tok) (d k o:Nat) (h:RdS b w A n c l k o) (t0 t1:Tok) (R3:Rz (List Cm)) (R2:Rz (Int × Bs))
  (KN:NextC b A n c l k o t0) (KT:TakeC b A n c l 5 ⟨#[105]⟩ k o false k) (KX:NextC b A n c l k o t1) (ht:t1.kind=5) (KP:PatC b A n c l k o R2) (KB:BloC b A n c l d R2.at R2.err R3):
  Cz 104 #[pP b,d] w (RulP b w A n c l t0.pl (fun kd q pk pt=>(q= -1)∧kd=1∧∀ y j,R2= .ok y j→y=(pk,pt)) R3):=by
 have H:=zz (Cx.start h);have hlt:=h.lt;unfold NextC at KN KX;generalize t0.pl=pl at KN ⊢;generalize t1.kind=kd1 at KX ht;have b1:(kd1==5)=true:=by simpa using ht
 clear h ht;unfold RulP;have tf0:=tokF0;have tf2:=tokF2;have tf4:=tokF4;go_enter Tryz.func104,Tryz.ntmps104
 go_wp2_with (first
  | (go_at_call 31;((with_reducible refine(KN.out _ (H.out.rd.box _)).mono ?_);rintro e w1 ⟨A1,c1,rfl,hb1,hr1⟩;have HA:=zz (((H.out.alloc 65 zeroR (by simp)).below hb1).alloc 65 [oZ,iI (-1),oZ,oS,(),pl] (by simp));obtain⟨u0,u1,u2,u3,u4,u5⟩:=(HA.out.box 0 _ _ rfl).all6;obtain⟨f0,f1,f2,f3,f4,f5⟩:=(HA.out.box 0 _ _ rfl).fre6;obtain⟨q0,q1,q2,q3⟩:=HA.out.two;clear hb1 hr1 KN))
  | (go_at_call 61;go_must ((with_reducible refine(KT.out _ HA.out.rd).mono ?_);rintro e w2 ⟨rfl,hs2⟩;have HB:=zz (HA.out.call hs2);obtain⟨u0,u1,u2,u3,u4,u5⟩:=(HB.out.box 0 _ _ rfl).all6;obtain⟨f0,f1,f2,f3,f4,f5⟩:=(HB.out.box 0 _ _ rfl).fre6;obtain⟨q0,q1,q2,q3⟩:=HB.out.two;clear hs2))
  | (go_at_call 31;go_must ((with_reducible refine(KX.out _ HB.out.rd).mono ?_);rintro e w4 ⟨A4,c4,rfl,hb4,hr4⟩;have HD:=zz (HB.out.below hb4);obtain⟨u0,u1,u2,u3,u4,u5⟩:=(HD.out.box 0 _ _ rfl).all6;obtain⟨f0,f1,f2,f3,f4,f5⟩:=(HD.out.box 0 _ _ rfl).fre6;obtain⟨q0,q1,q2,q3⟩:=HD.out.two;clear hb4 hr4))
  | (go_at_call 132;go_must ((with_reducible refine(KP.out _ HD.out.rd).mono ?_);rintro e w5 ⟨z,s,rfl,hs5,hv5⟩;have HE:=zz (HD.out.call hs5);have HW:=zz hv5;obtain⟨u0,u1,u2,u3,u4,u5⟩:=(HE.out.box 0 _ _ rfl).all6;obtain⟨f0,f1,f2,f3,f4,f5⟩:=(HE.out.box 0 _ _ rfl).fre6;obtain⟨q0,q1,q2,q3⟩:=HE.out.two;clear hs5 hv5))
  | (go_at_call 60;go_must ((with_reducible refine(KB.out _ (((HE.out.put 0 _ _ rfl 0 (by simp) (.int .i64 1)).put 0 _ _ rfl 2 (by simp) (.int .i64 z)).put 0 _ _ rfl 3 (by simp) (.string ⟨s.toArray⟩)).rd).mono ?_);rintro e w6 ⟨A6,xs,c6,rfl,hs6,hv6,hr6⟩;have HF0:=zz (((HE.out.put 0 _ _ rfl 0 (by simp) (.int .i64 1)).put 0 _ _ rfl 2 (by simp) (.int .i64 z)).put 0 _ _ rfl 3 (by simp) (.string ⟨s.toArray⟩));have HF:=zz (HF0.out.call hs6);have HX:=zz hv6;have HR:=zz hr6;have HG6:=zz hs6;obtain⟨u0,u1,u2,u3,u4,u5⟩:=(HF.out.box 0 _ _ rfl).all6;obtain⟨f0,f1,f2,f3,f4,f5⟩:=(HF.out.box 0 _ _ rfl).fre6;obtain⟨q0,q1,q2,q3⟩:=HF.out.two;obtain⟨g0,g1,g2,g3,g4,g5⟩:=(HF.out.box 1 _ zeroR rfl).all6;obtain⟨j0,j1,j2,j3,j4,j5⟩:=(HF.out.box 1 _ zeroR rfl).fre6;clear hs6 hv6 hr6)))
 have HL:=HF.out.put 0 _ _ rfl 4 (by simp) (.slice A6 xs.length c6);have HE2:=HL.put6 1 w.heap.size _ _ _ _ _ _ rfl (.int .i64 1) (.int .i64 (-1)) (.int .i64 z) (.string ⟨s.toArray⟩) (.slice A6 xs.length c6) (.int .i64 pl);obtain⟨r0,r1,r2,r3,r4,r5⟩:=(HE2.box 1 w.heap.size _ rfl).all6;refine bodyPost_ret (v:= .agg #[iI 1,iI (-1),z,s,.slice A6 xs.length c6,pl]) (by simp[results,Tryz.results104,go_sem,r0,r1,r2,r3,r4,r5]) rfl ⟨1, -1,z,s,A6,xs,c6,rfl,HE2.step,⟨rfl,rfl,HW.out⟩,HX.out,fun h3=>?_⟩;have hz:=HG6.out.1.size;have hz0:=HF0.out.two;refine((((HR.out h3).of (NwX.set ?_ ?_) fun _ h=>h).box6 ?_ ?_ _ _ _ _ _ _)).of (fun _ _=>rfl) (NwX.wide ?_ ?_) <;> simp[World.setCell] at hz hz0 ⊢ <;> omega
theorem x0t (b:Nat) (w:World) (A:OA) (n c:Nat) (l:List Tok) (d k o:Nat) (h:RdS b w A n c l k o) (t0 t1:Tok) (R3:Rz (List Cm)) (R2:Rz Int)
  (KN:NextC b A n c l k o t0) (KT:TakeC b A n c l 5 ⟨#[105]⟩ k o false k) (KX:NextC b A n c l k o t1) (ht:¬ t1.kind=5) (KP:RwC b A n c l false k o R2) (KB:BloC b A n c l d R2.at R2.err R3):
  Cz 104 #[pP b,d] w (RulP b w A n c l t0.pl (fun kd q pk pt=>(q= -1)∧pk=0∧pt=[]∧∀ y j,R2= .ok y j→y=kd) R3):=by
 have H:=zz (Cx.start h);have hlt:=h.lt;unfold NextC at KN KX;generalize t0.pl=pl at KN ⊢;generalize t1.kind=kd1 at KX ht;have b1:(kd1==5)=false:=by simpa using ht
 clear h ht;unfold RulP;have tf0:=tokF0;have tf2:=tokF2;have tf4:=tokF4;go_enter Tryz.func104,Tryz.ntmps104
 go_wp2_with (first
  | (go_at_call 31;((with_reducible refine(KN.out _ (H.out.rd.box _)).mono ?_);rintro e w1 ⟨A1,c1,rfl,hb1,hr1⟩;have HA:=zz (((H.out.alloc 65 zeroR (by simp)).below hb1).alloc 65 [oZ,iI (-1),oZ,oS,(),pl] (by simp));obtain⟨u0,u1,u2,u3,u4,u5⟩:=(HA.out.box 0 _ _ rfl).all6;obtain⟨f0,f1,f2,f3,f4,f5⟩:=(HA.out.box 0 _ _ rfl).fre6;obtain⟨q0,q1,q2,q3⟩:=HA.out.two;clear hb1 hr1 KN))
  | (go_at_call 61;go_must ((with_reducible refine(KT.out _ HA.out.rd).mono ?_);rintro e w2 ⟨rfl,hs2⟩;have HB:=zz (HA.out.call hs2);obtain⟨u0,u1,u2,u3,u4,u5⟩:=(HB.out.box 0 _ _ rfl).all6;obtain⟨f0,f1,f2,f3,f4,f5⟩:=(HB.out.box 0 _ _ rfl).fre6;obtain⟨q0,q1,q2,q3⟩:=HB.out.two;clear hs2))
  | (go_at_call 31;go_must ((with_reducible refine(KX.out _ HB.out.rd).mono ?_);rintro e w4 ⟨A4,c4,rfl,hb4,hr4⟩;have HD:=zz (HB.out.below hb4);obtain⟨u0,u1,u2,u3,u4,u5⟩:=(HD.out.box 0 _ _ rfl).all6;obtain⟨f0,f1,f2,f3,f4,f5⟩:=(HD.out.box 0 _ _ rfl).fre6;obtain⟨q0,q1,q2,q3⟩:=HD.out.two;clear hb4 hr4))
  | (go_at_call 133;go_must ((with_reducible refine(KP.out _ HD.out.rd).mono ?_);rintro e w5 ⟨z,rfl,hs5,hv5⟩;have HE:=zz (HD.out.call hs5);have HW:=zz hv5;obtain⟨u0,u1,u2,u3,u4,u5⟩:=(HE.out.box 0 _ _ rfl).all6;obtain⟨f0,f1,f2,f3,f4,f5⟩:=(HE.out.box 0 _ _ rfl).fre6;obtain⟨q0,q1,q2,q3⟩:=HE.out.two;clear hs5 hv5))
  | (go_at_call 60;go_must ((with_reducible refine(KB.out _ (HE.out.put 0 _ _ rfl 0 (by simp) (.int .i64 z)).rd).mono ?_);rintro e w6 ⟨A6,xs,c6,rfl,hs6,hv6,hr6⟩;have HF0:=zz (HE.out.put 0 _ _ rfl 0 (by simp) (.int .i64 z));have HF:=zz (HF0.out.call hs6);have HX:=zz hv6;have HR:=zz hr6;have HG6:=zz hs6;obtain⟨u0,u1,u2,u3,u4,u5⟩:=(HF.out.box 0 _ _ rfl).all6;obtain⟨f0,f1,f2,f3,f4,f5⟩:=(HF.out.box 0 _ _ rfl).fre6;obtain⟨q0,q1,q2,q3⟩:=HF.out.two;obtain⟨g0,g1,g2,g3,g4,g5⟩:=(HF.out.box 1 _ zeroR rfl).all6;obtain⟨j0,j1,j2,j3,j4,j5⟩:=(HF.out.box 1 _ zeroR rfl).fre6;clear hs6 hv6 hr6)))
 have HL:=HF.out.put 0 _ _ rfl 4 (by simp) (.slice A6 xs.length c6);have HE2:=HL.put6 1 w.heap.size _ _ _ _ _ _ rfl (.int .i64 z) (.int .i64 (-1)) oZ oS (.slice A6 xs.length c6) (.int .i64 pl);obtain⟨r0,r1,r2,r3,r4,r5⟩:=(HE2.box 1 w.heap.size _ rfl).all6;refine bodyPost_ret (v:= .agg #[z,iI (-1),oZ,oS,.slice A6 xs.length c6,pl]) (by simp[results,Tryz.results104,go_sem,r0,r1,r2,r3,r4,r5]) rfl ⟨z, -1,0,[],A6,xs,c6,rfl,HE2.step,⟨rfl,rfl,rfl,HW.out⟩,HX.out,fun h3=>?_⟩;have hz:=HG6.out.1.size;have hz0:=HF0.out.two;refine((((HR.out h3).of (NwX.set ?_ ?_) fun _ h=>h).box6 ?_ ?_ _ _ _ _ _ _)).of (fun _ _=>rfl) (NwX.wide ?_ ?_) <;> simp[World.setCell] at hz hz0 ⊢ <;> omega
end Go.Proofs.YtngfihoempcplaaGreatDoor
