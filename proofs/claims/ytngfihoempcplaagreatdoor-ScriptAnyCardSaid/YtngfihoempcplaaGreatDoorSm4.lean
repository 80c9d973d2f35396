import Derived.Test.YtngfihoempcplaaGreatDoorCf
import Derived.Test.YtngfihoempcplaaGreatDoorSm1
namespace Go.Proofs.YtngfihoempcplaaGreatDoor
open Go Go.RowKit
set_option maxRecDepth 100000
set_option maxHeartbeats 8000000
theorem y32 (S:BA) (hs:S.size≤4611686018427387904) (hn:isName S.data.toList=true) (h0:0<S.size) (hd:S[0].toNat<48∨57<S[0].toNat) (w:World):
  Cz 78 #[S] w fun e w'=>e= .returned true∧w=w':=by
 have K:Hid (∀ w',Cz 99 #[S] w' fun e w2=>e= .returned true∧w'=w2):=zz fun w'=>by rw[←hn];exact z5l S hs w'
 clear hn;by_cases c:S[0].toNat<48
 ·have c1:¬ 48≤S[0].toNat:=by omega
  clear hd;go_enter Tryz.func78,Tryz.ntmps78;go_wp2_with (go_at_call 99;((with_reducible refine(K.out _).mono ?_));rintro e w' ⟨rfl,rfl⟩);go_ret;exact⟨rfl,rfl⟩
 ·have c1:48≤S[0].toNat:=by omega
  have c2:¬ S[0].toNat≤57:=by omega
  clear hd c;go_enter Tryz.func78,Tryz.ntmps78;go_wp2_with (go_at_call 99;((with_reducible refine(K.out _).mono ?_));rintro e w' ⟨rfl,rfl⟩);go_ret;exact⟨z0c (by simp;omega),rfl⟩
def leastK:Nat→Int | 3=> -9223372036854775807 | 11=> -1 | _=>0
theorem z4i (j:Nat) (hj:j=3∨j=8∨j=9∨j=11) (w:World):Cz 79 #[j] w fun e w'=>e= .returned (.int .i64 (leastK j))∧w=w':=by
 rcases hj with rfl | rfl | rfl | rfl
 all_goals
  go_enter Tryz.func79,Tryz.ntmps79;go_wp2;go_ret;exact⟨rfl,rfl⟩
def okRu (k q pk:Int) (pt:Bs):Prop:=(k=1∧ -1≤q∧(pk=0∨pk=1∨pk=2))∨(k=3∧ -1≤q∧pk=0∧pt=[])∨((k=2∨k=4)∧q= -1∧pk=0∧pt=[])
theorem y1p (k q pk:Int) (pt:Bs) (A:OA) (n c:Nat) (pl:Int) (h:okRu k q pk pt) (w:World):
  Cz 115 #[.agg #[k,q,pk,pt,.slice A n c,pl]] w fun e w'=>e= .returned true∧Below w.heap.size w w':=by
 have HN:Hid (∀ o,Below w.heap.size w (w.alloc o)):=zz (z0b w);have heq:=fun W=>y40 0 0 ⟨#[]⟩ ⟨#[]⟩ W
 have e0:((0:Int)==0 && (⟨#[]⟩:BA).toList==(⟨#[]⟩:BA).toList)=true:=by simp
 rw[e0] at heq
 rcases h with ⟨rfl,h1,rfl | rfl | rfl⟩ | ⟨rfl,h1,rfl,rfl⟩ | ⟨rfl | rfl,rfl,rfl,rfl⟩
 ·have K:Hid (∀ w',Cz 138 #[oZ] w' fun e w2=>e= .returned (.string ⟨#[101,120]⟩)∧w'=w2):=zz fun w'=>z3y 0 (by omega) w'
  generalize (⟨pt.toArray⟩:BA)=S;go_enter Tryz.func115,Tryz.ntmps115;go_wp2_with (go_at_call 138;((with_reducible refine(K.out _).mono ?_));rintro e w' ⟨rfl,rfl⟩);go_ret;exact⟨rfl,HN.out _⟩
 ·have K:Hid (∀ w',Cz 138 #[iI 1] w' fun e w2=>e= .returned (.string ⟨#[103,108]⟩)∧w'=w2):=zz fun w'=>z3y 1 (by omega) w'
  generalize (⟨pt.toArray⟩:BA)=S;go_enter Tryz.func115,Tryz.ntmps115;go_wp2_with (go_at_call 138;((with_reducible refine(K.out _).mono ?_));rintro e w' ⟨rfl,rfl⟩);go_ret;exact⟨rfl,HN.out _⟩
 ·have K:Hid (∀ w',Cz 138 #[iI 2] w' fun e w2=>e= .returned (.string ⟨#[114,101]⟩)∧w'=w2):=zz fun w'=>z3y 2 (by omega) w'
  generalize (⟨pt.toArray⟩:BA)=S;go_enter Tryz.func115,Tryz.ntmps115;go_wp2_with (go_at_call 138;((with_reducible refine(K.out _).mono ?_));rintro e w' ⟨rfl,rfl⟩);go_ret;exact⟨rfl,HN.out _⟩
 all_goals
  go_enter Tryz.func115,Tryz.ntmps115;go_wp2;go_ret;exact⟨rfl,HN.out _⟩
def okNm (nm:Bs):Prop:=isName nm=true∧nm.length≤1000000∧∀ c t,nm=c::t→c.toNat<48∨57<c.toNat
def okTx (ps:List Pt):Prop:=may false ps=true∧ps.length≤1000000∧∀ p∈ps,p.1.length≤1000000
def okCo (x:Ex):Prop:=mayX x 0=true∧nmX x≤1000000∧sizeX x≤1000000
mutual
inductive MyC:Int→Cm→Prop where
 | k1 {o nm ps p}:okNm nm→okTx ps→MyC o (.mk 1 nm 0 ps exNone [] [] [] p)
 | k2 {o nm x p}:okNm nm→okCo x→MyC o (.mk 2 nm 0 [] x [] [] [] p)
 | k3 {o nm n p}:okNm nm→ -9223372036854775807≤n→MyC o (.mk 3 nm n [] exNone [] [] [] p)
 | k4 {o x b e p}:okCo x→o<16→b.length≤1000000→e.length≤1000000→(∀ c∈b,MyC (o+1) c)→(∀ c∈e,MyC (o+1) c)→MyC o (.mk 4 [] 0 [] x b e [] p)
 | k5 {o x b p}:okCo x→o<16→b.length≤1000000→(∀ c∈b,MyC (o+1) c)→MyC o (.mk 5 [] 0 [] x b [] [] p)
 | k6 {o nm b p}:okNm nm→o<16→b.length≤1000000→(∀ c∈b,MyC (o+1) c)→MyC o (.mk 6 nm 0 [] exNone b [] [] p)
 | k7 {o nm p}:okNm nm→MyC o (.mk 7 nm 0 [] exNone [] [] [] p)
 | k8 {o n p}:0≤n→MyC o (.mk 8 [] n [] exNone [] [] [] p)
 | k9 {o n p}:0≤n→MyC o (.mk 9 [] n [] exNone [] [] [] p)
 | k10 {o ps p}:okTx ps→MyC o (.mk 10 [] 0 ps exNone [] [] [] p)
 | k11 {o n p}: -1≤n→MyC o (.mk 11 [] n [] exNone [] [] [] p)
 | k12 {o u p}:u≠[]→o<16→u.length≤1000000→(∀ r∈u,MyR (o+1) r)→MyC o (.mk 12 [] 0 [] exNone [] [] u p)
 | k13 {o u p}:u≠[]→o<16→u.length≤1000000→(∀ r∈u,MyR (o+1) r)→MyC o (.mk 13 [] 0 [] exNone [] [] u p)
 | k14 {o u p}:u≠[]→o<16→u.length≤1000000→(∀ r∈u,MyR (o+1) r)→MyC o (.mk 14 [] 0 [] exNone [] [] u p)
 | k15 {o p}:MyC o (.mk 15 [] 0 [] exNone [] [] [] p)
 | k16 {o p}:MyC o (.mk 16 [] 0 [] exNone [] [] [] p)
inductive MyR:Int→Ru→Prop where
 | mk {o k q pk pt b p}:okRu k q pk pt→o<16→b.length≤1000000→(∀ c∈b,MyC (o+1) c)→MyR o (.mk k q pk pt b p)
end
def PMc (c:Cm):Prop:=∀ (o:Int) (lk:Lk) (w:World),0≤o→o≤16→MyC o c→KidC (LtX w.heap.size) w lk c→Cz 36 #[valC c lk,o] w fun e w'=>e= .returned true∧Below w.heap.size w w'
def PMr (r:Ru):Prop:=∀ (o:Int) (A:OA) (c:Nat) (w:World),0≤o→o<16→MyR o r→KidR (LtX w.heap.size) w A r→Cz 82 #[.slice A r.body.length c,o] w fun e w'=>e= .returned true∧Below w.heap.size w w'
theorem z6y (ks:List Cm) (ih:∀ x∈ks,PMc x) (o:Int) (A:OA) (c:Nat) (w:World) (h0:0≤o) (h1:o≤16) (hy:∀ x∈ks,MyC o x) (hk:RowC (LtX w.heap.size) w A ks) (hl:ks.length≤1000000):
  Cz 23 #[.slice A ks.length c,o] w fun e w'=>e= .returned true∧Below w.heap.size w w':=by
 obtain⟨m,hm⟩:∃ m,m=ks.length:=⟨_,rfl⟩;rw[←hm] at hl ⊢;have HM:=zz hm;have HK:=zz hk;have HI:=zz ih;have HY:=zz hy;have H0:=zz (And.intro h0 h1);clear hm hk ih hy h0 h1;go_enter Tryz.func23,Tryz.ntmps23;go_wp2
 go_loopw [9] (fun i wr=>∃ j:Nat,j≤m∧i= .int .i64 j∧Below w.heap.size w wr) (fun i _=>m - (intOf i).toNat)
 case atStart=>exact⟨0,by omega,rfl,Below.refl _ _⟩
 case round=>
  obtain⟨j,hj,rfl,hb⟩:=hrel;obtain⟨V,hV⟩:∃ V,V=wr:=⟨_,rfl⟩;subst hV;have HB:=zz hb;by_cases a:j<m
  ·obtain⟨r,hr⟩:=z0t HM.out a
   obtain⟨ad,lk,rfl,hp,h9,hkr⟩:=z4p HK.out hb hr;obtain⟨lp,lcp,lx,lcx,lb,lcb,le,lce,lu,lcu⟩:=lk;have hmem:=List.mem_of_getElem? hr
   have KM:Hid (∀ w',Below V.heap.size V w'→Cz 36 #[.agg #[r.kind,r.name,r.n,.slice lp r.parts.length lcp,r.cond.kind,r.cond.n,r.cond.name,r.cond.op,.slice lx r.cond.kids.length lcx,.slice lb r.body.length lcb,.slice le r.els.length lce,.slice lu r.rules.length lcu,r.pl],o] w' fun e w2=>e= .returned true∧Below w'.heap.size w' w2):=zz fun w' hw=>
    HI.out r hmem o ⟨lp,lcp,lx,lcx,lb,lcb,le,lce,lu,lcu⟩ w' H0.out.1 H0.out.2 (HY.out r hmem) ((hkr.of (fun _ h=>hb.cell h) fun _ h=>Nat.lt_of_lt_of_le h hb.size:KidC (LtX V.heap.size) V ⟨lp,lcp,lx,lcx,lb,lcb,le,lce,lu,lcu⟩ r).next hw)
   have hbt:(ad.add (j * 13)).block<V.heap.size:=by rw[z0p];have:=hb.size;omega
   have h9:LieL V (ad.add (j * 13)) [r.kind,r.name,r.n,.slice lp r.parts.length lcp,r.cond.kind,r.cond.n,r.cond.name,r.cond.op,.slice lx r.cond.kids.length lcx,.slice lb r.body.length lcb,.slice le r.els.length lce,.slice lu r.rules.length lcu,r.pl]:=h9;obtain⟨c0,c1,c2,c3,c4,c5,c6,c7,c8,c9,c10,c11,c12⟩:=h9.at13;clear hr hmem hkr h9 hp hb;go_wp2_with (go_at_call 36;go_must ((with_reducible refine(KM.out _ (z0b V _)).mono ?_);rintro e w3 ⟨rfl,hb3⟩;have HB3:=zz ((z0b V _).trans (hb3.mono (by simp)));clear hb3))
   go_roundw
   case rel=>exact⟨j+1,by omega,by go_num,HB.out.trans (HB3.out.mono HB.out.size)⟩
   case measure=>simp[intOf];omega
  ·go_wp2
   go_ret;exact⟨rfl,HB.out⟩
theorem z8y (ks:List Cm) (ih:∀ x∈ks,PMc x) (o:Int) (A:OA) (c:Nat) (w:World) (h0:0≤o) (h1:o<16) (hy:∀ x∈ks,MyC (o+1) x) (hk:RowC (LtX w.heap.size) w A ks) (hl:ks.length≤1000000):
  Cz 82 #[.slice A ks.length c,o] w fun e w'=>e= .returned true∧Below w.heap.size w w':=by
 have K:Hid (∀ w',Below w.heap.size w w'→Cz 23 #[.slice A ks.length c,iI (o+1)] w' fun e w2=>e= .returned true∧Below w'.heap.size w' w2):=zz fun w' hw=>z6y ks ih (o+1) A c w' (by omega) (by omega) hy (hk.next hw) hl
 generalize ks.length=n at K;clear hy hk ih hl;go_enter Tryz.func82,Tryz.ntmps82;go_wp2_with (go_at_call 23;go_must ((with_reducible refine(K.out _ (by first | exact Below.refl _ _ | exact bR.drew)).mono ?_);rintro e w3 ⟨rfl,hb3⟩;have HB3:=zz hb3;clear hb3));go_ret;exact⟨rfl,HB3.out⟩
theorem y3l (ks:List Ru) (ih:∀ x∈ks,PMr x) (o:Int) (A:OA) (c:Nat) (w:World) (h0:0≤o) (h1:o<16) (hne:ks≠[]) (hy:∀ x∈ks,MyR (o+1) x) (hk:RowU (LtX w.heap.size) w A ks) (hl:ks.length≤1000000):
  Cz 83 #[.slice A ks.length c,o] w fun e w'=>e= .returned true∧Below w.heap.size w w':=by
 obtain⟨m,hm⟩:∃ m,m=ks.length:=⟨_,rfl⟩;rw[←hm] at hl ⊢;have hm0:0<m:=by rw[hm];exact List.length_pos_iff.2 hne
 have z1:((m:Int)==0)=false:=by simp;omega
 have z2:(o==16)=false:=by simp;omega
 have HM:=zz hm;have HK:=zz hk;have HI:=zz ih;have HY:=zz hy;have H0:=zz (And.intro h0 h1);clear hm hk ih hy hne;go_enter Tryz.func83,Tryz.ntmps83;go_wp2
 go_loopw [16] (fun i wr=>∃ j:Nat,j≤m∧i= .int .i64 j∧Below w.heap.size w wr) (fun i _=>m - (intOf i).toNat)
 case atStart=>exact⟨0,by omega,rfl,Below.refl _ _⟩
 case round=>
  obtain⟨j,hj,rfl,hb⟩:=hrel;obtain⟨V,hV⟩:∃ V,V=wr:=⟨_,rfl⟩;subst hV;have HB:=zz hb;by_cases a:j<m
  ·obtain⟨r,hr⟩:=z0t HM.out a
   obtain⟨ad,lb,lcb,rfl,hp,h9,hkr⟩:=z4l HK.out hb hr;have hmem:=List.mem_of_getElem? hr;have hyr:=HY.out r hmem;have h16:o+1<16∧okRu r.kind r.peer r.pk r.pt:=by cases hyr with | mk a1 a2 a3 a4=>exact⟨a2,a1⟩
   have KU:Hid (∀ w',Cz 115 #[.agg #[r.kind,r.peer,r.pk,r.pt,.slice lb r.body.length lcb,r.pl]] w' fun e w2=>e= .returned true∧Below w'.heap.size w' w2):=zz fun w'=>y1p _ _ _ _ _ _ _ _ h16.2 w'
   have KB:Hid (∀ w',Below V.heap.size V w'→Cz 82 #[.slice lb r.body.length lcb,iI (o+1)] w' fun e w2=>e= .returned true∧Below w'.heap.size w' w2):=zz fun w' hw=>
    HI.out r hmem (o+1) lb lcb w' (by have:=H0.out.1;omega) h16.1 hyr (z2j.2 ((z2j.1 (hkr.of (fun _ h=>hb.cell h) fun _ h=>Nat.lt_of_lt_of_le h hb.size:KidR (LtX V.heap.size) V lb r)).next hw))
   have hbt:(ad.add (j * 6)).block<V.heap.size:=by rw[z0p];have:=hb.size;omega
   have h9:LieL V (ad.add (j * 6)) [r.kind,r.peer,r.pk,r.pt,.slice lb r.body.length lcb,r.pl]:=h9;obtain⟨c0,c1,c2,c3,c4,c5⟩:=h9.at6;have HBX:=zz (z72 V [r.kind,r.peer,r.pk,r.pt,.slice lb r.body.length lcb,r.pl] (by simp) 65);clear hr hmem hkr h9 hp hb hyr h16;go_wp2_with (first | (go_at_call 115;go_must ((with_reducible refine(KU.out _).mono ?_);rintro e w3 ⟨rfl,hb3⟩;have HT3:=zz hb3;have y4:=(HBX.out _ hb3).at_ 4 _ rfl;clear hb3)) | (go_at_call 82;go_must ((with_reducible refine(KB.out _ ((z0b V _).trans (HT3.out.mono (by simp)))).mono ?_);rintro e w4 ⟨rfl,hb4⟩;have HB3:=zz ((z0b V _).trans ((HT3.out.trans (hb4.mono HT3.out.size)).mono (by simp)));clear hb4)))
   go_roundw
   case rel=>exact⟨j+1,by omega,by go_num,HB.out.trans (HB3.out.mono HB.out.size)⟩
   case measure=>simp[intOf];omega
  ·go_wp2
   go_ret;exact⟨rfl,HB.out⟩
end Go.Proofs.YtngfihoempcplaaGreatDoor
