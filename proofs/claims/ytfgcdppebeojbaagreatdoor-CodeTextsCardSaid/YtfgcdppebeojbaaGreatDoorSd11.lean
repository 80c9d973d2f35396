import Derived.Test.YtfgcdppebeojbaaGreatDoorSc41
import Derived.Test.YtfgcdppebeojbaaGreatDoorEx20
import Derived.Test.YtfgcdppebeojbaaGreatDoorEx29
namespace Go.Proofs.YtfgcdppebeojbaaGreatDoor
open Go Go.RowKit
set_option maxRecDepth 100000
set_option maxHeartbeats 4000000
section
def plD (l:List Tok) (S:ByteArray) (k:Nat):Int:=if k<l.length then (nxz l k).pl else S.size
structure DocS (b:Nat) (w:World) (S:ByteArray) (A:Option Addr) (n c:Nat) (l:List Tok) (k o:Nat):Prop where
 c0:w.cell? ⟨b,0,none⟩=some (.string S)
 c1:w.cell? ⟨b,1,none⟩=some (.slice A n c)
 ex:∃ (a:Nat) (p:Int),w.cell? ⟨b,2,none⟩=some (.int .i64 a)∧w.cell? ⟨b,3,none⟩=some (.int .i64 p)∧a≤n∧(o=0→a=k∧p=0)∧(o≠0→p=plD l S k)
 c4:w.cell? ⟨b,4,none⟩=some (.int .i64 o)
 f2:w.frozen? ⟨b,2,none⟩=false
 f3:w.frozen? ⟨b,3,none⟩=false
 f4:w.frozen? ⟨b,4,none⟩=false
 row:RdT b w A n l
 fit:FitL l
 le:k≤n
 oks:o=0∨o=1∨o=8
 few:n≤4000
section
variable {b:Nat} {w w':World} {S:ByteArray} {A:Option Addr} {n c:Nat} {l:List Tok} {k o:Nat}
theorem DocS.lt (h:DocS b w S A n c l k o):b<w.heap.size:=World.block_lt_of_cell? w _ h.c0
theorem DocS.same (h:DocS b w S A n c l k o) (hc:∀ j,w'.cell? ⟨b,j,none⟩=w.cell? ⟨b,j,none⟩) (hf:∀ j,j<5→w'.frozen? ⟨b,j,none⟩=w.frozen? ⟨b,j,none⟩) (hr:RdT b w' A n l):DocS b w' S A n c l k o:=by
 obtain⟨a,p,h2,h3,h4,h5,h6⟩:=h.ex;exact⟨(hc 0).trans h.c0,(hc 1).trans h.c1,⟨a,p,(hc 2).trans h2,(hc 3).trans h3,h4,h5,h6⟩,(hc 4).trans h.c4,(hf 2 (by decide)).trans h.f2,(hf 3 (by decide)).trans h.f3,(hf 4 (by decide)).trans h.f4,hr,h.fit,h.le,h.oks,h.few⟩
theorem DocS.low (h:DocS b w S A n c l k o) (hB:Below w.heap.size w w'):DocS b w' S A n c l k o:=
 h.same (fun j=>hB.cell (p:=⟨b,j,none⟩) h.lt) (fun j _=>hB.frozen (p:=⟨b,j,none⟩) h.lt) (h.row.keep (hB.mono (Nat.le_of_lt h.lt)))
theorem DocS.other (h:DocS b w S A n c l k o) {a:Addr} (ha:b<a.block) (u:Value):DocS b (w.setCell a u) S A n c l k o:=
 h.same (fun j=>World.cell?_setCell_other _ _ _ _ (fun e=>by rw[e] at ha;exact absurd ha (Nat.lt_irrefl _))) (fun j _=>World.frozen?_setCell ..) (h.row.keep ((Below.refl b w).setCell (by omega) _))
theorem DocS.at0 (h:DocS b w S A n c l k 0):w.cell? ⟨b,2,none⟩=some (.int .i64 k):=by
 obtain⟨a,p,h2,_,_,h5,_⟩:=h.ex;rw[(h5 rfl).1] at h2;exact h2
theorem DocS.pl0 (h:DocS b w S A n c l k 0):w.cell? ⟨b,3,none⟩=some (.int .i64 0):=by
 obtain⟨a,p,_,h3,_,h5,_⟩:=h.ex;rw[(h5 rfl).2] at h3;exact h3
theorem DocS.place (h:DocS b w S A n c l k 0) (j:Nat) (z:Int) (hz:z=j) (hj:j≤n):DocS b (w.setCell ⟨b,2,none⟩ (.int .i64 z)) S A n c l j 0:=by
 subst hz
 exact⟨(set_ne _ _ _ _ _ (by omega)).trans h.c0,(set_ne _ _ _ _ _ (by omega)).trans h.c1,⟨j,0,set_same _ _ _ _ _ h.at0,(set_ne _ _ _ _ _ (by omega)).trans h.pl0,hj,fun _=>⟨rfl,rfl⟩,fun e=>absurd rfl e⟩,(set_ne _ _ _ _ _ (by omega)).trans h.c4,
  (World.frozen?_setCell ..).trans h.f2,(World.frozen?_setCell ..).trans h.f3,(World.frozen?_setCell ..).trans h.f4,h.row.keep ((Below.refl b w).setCell (Nat.le_refl b) _),h.fit,hj,h.oks,h.few⟩
theorem DocS.fault (h:DocS b w S A n c l k 0) (m:Nat) (hm:m≤n) (e:Nat) (he:e=1∨e=8) (p1 p2:Int) (hp:p2=plD l S m):DocS b (((w.setCell ⟨b,4,none⟩ (.int .i64 e)).setCell ⟨b,3,none⟩ (.int .i64 p1)).setCell ⟨b,3,none⟩ (.int .i64 p2)) S A n c l m e:=by
 have hB:Below b w (((w.setCell ⟨b,4,none⟩ (.int .i64 e)).setCell ⟨b,3,none⟩ (.int .i64 p1)).setCell ⟨b,3,none⟩ (.int .i64 p2)):=(((Below.refl b w).setCell (Nat.le_refl b) _).setCell (Nat.le_refl b) _).setCell (Nat.le_refl b) _
 have ne:∀ j,j≠3→j≠4→(((w.setCell ⟨b,4,none⟩ (.int .i64 e)).setCell ⟨b,3,none⟩ (.int .i64 p1)).setCell ⟨b,3,none⟩ (.int .i64 p2)).cell? ⟨b,j,none⟩=w.cell? ⟨b,j,none⟩:=fun j h3 h4=>by
  rw[set_ne _ _ _ _ _ (by omega),set_ne _ _ _ _ _ (by omega),set_ne _ _ _ _ _ (by omega)]
 have fr:∀ j,(((w.setCell ⟨b,4,none⟩ (.int .i64 e)).setCell ⟨b,3,none⟩ (.int .i64 p1)).setCell ⟨b,3,none⟩ (.int .i64 p2)).frozen? ⟨b,j,none⟩=w.frozen? ⟨b,j,none⟩:=fun j=>by
  rw[World.frozen?_setCell,World.frozen?_setCell,World.frozen?_setCell]
 have x3:((w.setCell ⟨b,4,none⟩ (.int .i64 e)).setCell ⟨b,3,none⟩ (.int .i64 p1)).cell? ⟨b,3,none⟩=some (.int .i64 p1):=set_same _ _ _ _ _ ((set_ne _ _ _ _ _ (by omega)).trans h.pl0);refine⟨(ne 0 (by decide) (by decide)).trans h.c0,(ne 1 (by decide) (by decide)).trans h.c1,⟨k,p2,(ne 2 (by decide) (by decide)).trans h.at0,set_same _ _ _ _ _ x3,h.le,fun e0=>by omega,fun _=>hp⟩,?_,(fr 2).trans h.f2,(fr 3).trans h.f3,(fr 4).trans h.f4,h.row.keep hB,h.fit,hm,.inr he,h.few⟩;rw[set_ne _ _ _ _ _ (by omega),set_ne _ _ _ _ _ (by omega)];exact set_same _ _ _ _ _ h.c4
theorem DocS.fault1 (h:DocS b w S A n c l k 0) (m:Nat) (hm:m≤n) (e:Nat) (he:e=1∨e=8) (p:Int) (hp:p=plD l S m):DocS b ((w.setCell ⟨b,4,none⟩ (.int .i64 e)).setCell ⟨b,3,none⟩ (.int .i64 p)) S A n c l m e:=by
 have:=h.fault m hm e he 0 p hp;have hB:Below b w ((w.setCell ⟨b,4,none⟩ (.int .i64 e)).setCell ⟨b,3,none⟩ (.int .i64 p)):=((Below.refl b w).setCell (Nat.le_refl b) _).setCell (Nat.le_refl b) _
 have ne:∀ j,j≠3→j≠4→((w.setCell ⟨b,4,none⟩ (.int .i64 e)).setCell ⟨b,3,none⟩ (.int .i64 p)).cell? ⟨b,j,none⟩=w.cell? ⟨b,j,none⟩:=fun j h3 h4=>by
  rw[set_ne _ _ _ _ _ (by omega),set_ne _ _ _ _ _ (by omega)]
 have fr:∀ j,((w.setCell ⟨b,4,none⟩ (.int .i64 e)).setCell ⟨b,3,none⟩ (.int .i64 p)).frozen? ⟨b,j,none⟩=w.frozen? ⟨b,j,none⟩:=fun j=>by
  rw[World.frozen?_setCell,World.frozen?_setCell]
 refine⟨(ne 0 (by decide) (by decide)).trans h.c0,(ne 1 (by decide) (by decide)).trans h.c1,⟨k,p,(ne 2 (by decide) (by decide)).trans h.at0,set_same _ _ _ _ _ ((set_ne _ _ _ _ _ (by omega)).trans h.pl0),h.le,fun e0=>by omega,fun _=>hp⟩,?_,(fr 2).trans h.f2,(fr 3).trans h.f3,(fr 4).trans h.f4,h.row.keep hB,h.fit,hm,.inr he,h.few⟩;rw[set_ne _ _ _ _ _ (by omega)];exact set_same _ _ _ _ _ h.c4
theorem DocS.len (h:DocS b w S A n c l k o):n=l.length∧n≤1000000:=⟨h.row.1,by rw[h.row.1];exact h.fit.len⟩
end
abbrev StepD (b:Nat) (w:World) (S:ByteArray) (A:Option Addr) (n c:Nat) (l:List Tok) (k o:Nat) (w':World):Prop:=w.grownBy w' (some b)∧DocS b w' S A n c l k o
theorem dfail_any (m:Nat) (er:Nat) (he:er=1∨er=8) (b:Nat) (w:World) (S:ByteArray) (A:Option Addr) (n c:Nat) (l:List Tok) (k o:Nat) (h:DocS b w S A n c l k o) (hm:m≤n):
  Calls Tryz.prog 25 #[.pointer (some ⟨b,0,none⟩),.int .i64 m,.int .i64 er] w fun e w'=>e= .returned (.tuple #[])∧StepD b w S A n c l (if o=0 then m else k) (if o=0 then er else o) w':=by
 have H:=Lib.hid h;have c0:=h.c0;have c1:=h.c1;have c4:=h.c4;have f3:=h.f3;have f4:=h.f4;have hlen:=h.len;by_cases o0:o=0
 ·subst o0
  rw[if_pos rfl,if_pos rfl];have c3:=h.pl0;by_cases a:m<n
  ·obtain⟨t,ht⟩:∃ t,l[m]?=some t:=⟨_,List.getElem?_eq_getElem (by omega)⟩
   have hpl:t.pl=plD l S m:=by unfold plD;rw[if_pos (by omega),nxz_at ht]
   obtain⟨ad,A',c',rfl,h5,_⟩:=h.row.at_ ht
   obtain⟨x0,x1,x2,x3,x4⟩:=h5;have hbt:(ad.add (m * 5)).block<w.heap.size:=World.block_lt_of_cell? w _ x0
   have hbn:b≠(ad.add (m * 5)).block:=by
    obtain⟨ad2,e2,hl2,_⟩:=h.row.2 (by omega);injection e2 with e2
    subst e2;rw[block_of_add];omega
   have HP:=Lib.hid hpl;have ha1:(m:Int)<n:=by omega
   have hm2:m≤1000000:=by omega
   clear h ht hlen hpl;go_enter Tryz.func25,Tryz.ntmps25;go_wp2
   go_end0
   exact⟨rfl,grown_trans (grown_trans (grown_set _ _ _ _) (grown_set _ _ _ _)) (grown_set _ _ _ _),H.out.fault m hm er he _ _ HP.out⟩
  ·have hpl:(S.size:Int)=plD l S m:=by unfold plD;rw[if_neg (by omega)]
   have HP:=Lib.hid hpl;have ha1:¬ (m:Int)<n:=by omega
   clear h hlen hpl;go_enter Tryz.func25,Tryz.ntmps25;go_wp2
   go_end0
   exact⟨rfl,grown_trans (grown_set _ _ _ _) (grown_set _ _ _ _),H.out.fault1 m hm er he _ HP.out⟩
 ·rw[if_neg o0,if_neg o0]
  obtain⟨b1,b2,b3,b4⟩:=neq0_f o0;clear o0 h;go_enter Tryz.func25,Tryz.ntmps25;go_wp2;refine bodyPost_ret (results_none (by rfl) _ _ _) rfl ?_;exact⟨rfl,grown_below (Below.refl _ _),H.out⟩
theorem dis_any (kd:Int) (hkd:kd≠0) (W:ByteArray) (b:Nat) (w:World) (S:ByteArray) (A:Option Addr) (n c:Nat) (l:List Tok) (k o:Nat) (h:DocS b w S A n c l k o):
  Calls Tryz.prog 41 #[.pointer (some ⟨b,0,none⟩),.int .i64 kd,.string W] w fun e w'=>e= .returned (.bool (isO l kd W.data.toList k o))∧Below w.heap.size w w':=by
 obtain⟨v,hv⟩:∃ v,v=isO l kd W.data.toList k o:=⟨_,rfl⟩;rw[←hv];have c1:=h.c1;have c4:=h.c4;have hlen:=h.len;have hle:=h.le;by_cases o0:o=0
 ·subst o0
  have c2:=h.at0;by_cases a:k<n
  ·obtain⟨t,ht⟩:∃ t,l[k]?=some t:=⟨_,List.getElem?_eq_getElem (by omega)⟩
   obtain⟨ad,A',c',rfl,h5,_⟩:=h.row.at_ ht
   obtain⟨x0,x1,x2,x3,x4⟩:=h5;have hbt:(ad.add (k * 5)).block<w.heap.size:=World.block_lt_of_cell? w _ x0;have ha1:(k:Int)<n:=by omega
   have hm2:k≤1000000:=by omega
   have hn2:n≤1000000:=by omega
   have hiv:v=decide (t.kind=kd∧t.word=W.data.toList):=by rw[hv,isO_zero];unfold isT;rw[nxz_at ht]
   obtain⟨T,hT⟩:∃ T:ByteArray,T=⟨t.word.toArray⟩:=⟨_,rfl⟩;rw[←hT] at x1;by_cases e1:t.kind=kd
   ·rw[e1] at x0
    have b1:(kd==kd)=true:=by simp
    by_cases e2:T=W
    ·have HV:Hid (v=true):=Lib.hid (by rw[hiv];exact decide_eq_true ⟨e1,(bytes_eq hT).2 e2⟩)
     subst e2;have b2:(T.toList==T.toList)=true:=by simp
     clear h ht hT hv hiv e1 hlen hle hkd x2 x3 x4;go_enter Tryz.func41,Tryz.ntmps41;go_wp2;go_quiet (fail);go_wp2;go_ret;exact⟨by rw[HV.out];try rfl,below_drewN (Below.refl _ _) _⟩
    ·have HV:Hid (v=false):=Lib.hid (by rw[hiv];exact decide_eq_false fun e=>e2 ((bytes_eq hT).1 e.2))
     have b2:(T.toList==W.toList)=false:=toList_ne e2;clear h ht hT hv hiv e1 e2 hlen hle hkd x2 x3 x4;go_enter Tryz.func41,Tryz.ntmps41;go_wp2;go_quiet (fail);go_wp2;go_ret;exact⟨by rw[HV.out];try rfl,below_drewN (Below.refl _ _) _⟩
   ·have HV:Hid (v=false):=Lib.hid (by rw[hiv];exact decide_eq_false fun e=>e1 e.1)
    generalize t.kind=x at x0 e1;have b1:(x==kd)=false:=by simpa using e1
    clear h ht hT hv hiv e1 hlen hle hkd x2 x3 x4;go_enter Tryz.func41,Tryz.ntmps41;go_wp2;go_quiet (fail);go_wp2;go_ret;exact⟨by rw[HV.out];try rfl,below_drewN (Below.refl _ _) _⟩
  ·have HV:Hid (v=false):=Lib.hid (by
    rw[hv,isO_zero];unfold isT;rw[nxz_end (by omega)];exact decide_eq_false fun e=>hkd e.1.symm)
   have ha1:¬ (k:Int)<n:=by omega
   clear h hv hlen hle hkd;go_enter Tryz.func41,Tryz.ntmps41;go_wp2;go_quiet (fail);go_wp2;go_ret;exact⟨by rw[HV.out];try rfl,below_drewN (Below.refl _ _) _⟩
 ·have HV:Hid (v=false):=Lib.hid (by rw[hv];exact isO_bad l hkd _ _ o0)
  obtain⟨b1,b2,b3,b4⟩:=neq0_f o0;clear h o0 hv hlen hle hkd;go_enter Tryz.func41,Tryz.ntmps41;go_wp2;go_quiet (fail);go_wp2;go_ret;exact⟨by rw[HV.out];try rfl,below_drewN (Below.refl _ _) _⟩
end
section
structure Cy (b:Nat) (w W:World) (S:ByteArray) (A:Option Addr) (n c:Nat) (l:List Tok) (k o:Nat) (bs:List (Nat × List Value)):Prop where
 lt:b<w.heap.size
 rd:DocS b W S A n c l k o
 gr:w.grownBy W (some b)
 bx:∀ x∈bs,w.heap.size≤x.1∧0<x.2.length∧BoxL W x.1 x.2
 ap:bs.Pairwise fun x y=>y.1<x.1
section
variable {b:Nat} {w W W':World} {S:ByteArray} {A:Option Addr} {n c:Nat} {l:List Tok} {k o k' o':Nat} {bs:List (Nat × List Value)}
theorem Cy.start (h:DocS b w S A n c l k o):Cy b w w S A n c l k o []:=⟨h.lt,h,grown_below (Below.refl _ _),by simp,List.Pairwise.nil⟩
theorem Cy.alloc (h:Cy b w W S A n c l k o bs) (T:TypeId) (vs:List Value) (hv:0<vs.length):Cy b w (W.alloc (.cells vs.toArray T)) S A n c l k o ((W.heap.size,vs)::bs):=by
 have hb:Below W.heap.size W (W.alloc (.cells vs.toArray T)):=(Below.refl _ _).alloc (Nat.le_refl _) _;refine⟨h.lt,h.rd.low hb,grown_trans h.gr (grown_below hb),fun x hx=>?_,List.Pairwise.cons (fun x hx=>(h.bx x hx).2.2.lt (h.bx x hx).2.1) h.ap⟩
 rcases List.mem_cons.1 hx with rfl | hx
 ·exact⟨h.gr.size,hv,BoxL.new _ _ _⟩
 ·obtain⟨h1,h2,h3⟩:=h.bx x hx
  exact⟨h1,h2,h3.low h2 hb⟩
theorem Cy.call (h:Cy b w W S A n c l k o bs) (hs:StepD b W S A n c l k' o' W'):Cy b w W' S A n c l k' o' bs:=
 ⟨h.lt,hs.2,grown_trans h.gr hs.1,fun x hx=>by
  obtain⟨h1,h2,h3⟩:=h.bx x hx;exact⟨h1,h2,h3.grown h2 hs.1 (by have:=h.lt;omega)⟩,h.ap⟩
theorem Cy.below (h:Cy b w W S A n c l k o bs) (hb:Below W.heap.size W W'):Cy b w W' S A n c l k o bs:=h.call ⟨grown_below hb,h.rd.low hb⟩
theorem Cy.put (h:Cy b w W S A n c l k o bs) (i:Nat) (q:Nat) (vs:List Value) (hi:bs[i]?=some (q,vs)) (j:Nat) (hj:j<vs.length) (u:Value):Cy b w (W.setCell ⟨q,j,none⟩ u) S A n c l k o (bs.set i (q,vs.set j u)):=by
 have hm:=List.mem_of_getElem? hi;obtain⟨q1,q2,q3⟩:=h.bx _ hm;dsimp only at q1 q2 q3;have hlt:=h.lt;have hil:=(List.getElem?_eq_some_iff.1 hi).1;have hei:=(List.getElem?_eq_some_iff.1 hi).2;have ap:=h.ap;refine⟨h.lt,h.rd.other (a:=⟨q,j,none⟩) (by show b<q;omega) _,grown_setc h.gr q1 _ _,fun x hx=>?_,?_⟩
 ·obtain⟨m,hm,e⟩:=List.getElem_of_mem hx
  by_cases c:i=m
  ·subst c
   rw[List.getElem_set_self] at e;subst e;exact⟨q1,by simpa using q2,q3.set j hj u⟩
  ·rw[List.getElem_set_ne c] at e
   rw[List.length_set] at hm;obtain⟨h1,h2,h3⟩:=h.bx x (e ▸ List.getElem_mem hm);refine⟨h1,h2,h3.other (a:=⟨q,j,none⟩) ?_ _⟩;show q≠x.1;rw[List.pairwise_iff_getElem] at ap
   rcases Nat.lt_or_gt_of_ne c with c | c
   ·have:=ap i m hil hm c
    rw[hei,e] at this;dsimp only at this;omega
   ·have:=ap m i hm hil c
    rw[hei,e] at this;dsimp only at this;omega
 ·rw[List.pairwise_iff_getElem] at ap ⊢
  intro i1 i2 h1 h2 h12;rw[List.length_set] at h1 h2;have:=ap i1 i2 h1 h2 h12
  have key:∀ m (hm:m<bs.length) (hm':m<(bs.set i (q,vs.set j u)).length),((bs.set i (q,vs.set j u))[m]).1=(bs[m]).1:=by
   intro m hm hm';by_cases c:i=m
   ·subst c;rw[List.getElem_set_self,hei]
   ·rw[List.getElem_set_ne c]
  rw[key _ h1 _,key _ h2 _];exact this
theorem Cy.place (h:Cy b w W S A n c l k 0 bs) (j:Nat) (z:Int) (hz:z=j) (hj:j≤n):Cy b w (W.setCell ⟨b,2,none⟩ (.int .i64 z)) S A n c l j 0 bs:=
 h.call ⟨grown_set _ _ _ _,h.rd.place j z hz hj⟩
theorem Cy.put5 (h:Cy b w W S A n c l k o bs) (i q:Nat) (u0 u1 u2 u3 u4:Value) (hi:bs[i]?=some (q,[u0,u1,u2,u3,u4])) (v0 v1 v2 v3 v4:Value):Cy b w (((((W.setCell ⟨q,0,none⟩ v0).setCell ⟨q,1,none⟩ v1).setCell ⟨q,2,none⟩ v2).setCell ⟨q,3,none⟩ v3).setCell ⟨q,4,none⟩ v4) S A n c l k o (bs.set i (q,[v0,v1,v2,v3,v4])):=by
 have hl:=(List.getElem?_eq_some_iff.1 hi).1;have e:∀ x:Nat × List Value,(bs.set i x)[i]?=some x:=fun x=>List.getElem?_set_self hl
 have h0:=h.put i q _ hi 0 (by simp) v0;have h1:=h0.put i q _ (e _) 1 (by simp) v1;have h2:=h1.put i q _ (by rw[List.set_set];exact e _) 2 (by simp) v2;have h3:=h2.put i q _ (by rw[List.set_set,List.set_set];exact e _) 3 (by simp) v3;have h4:=h3.put i q _ (by rw[List.set_set,List.set_set,List.set_set];exact e _) 4 (by simp) v4;rw[List.set_set,List.set_set,List.set_set,List.set_set] at h4;exact h4
theorem Cy.drews (h:Cy b w W S A n c l k o bs) (m:Nat):Cy b w (W.drewN m) S A n c l k o bs:=h.below ⟨rfl,rfl,rfl,Nat.le_refl _,fun _ _=>rfl⟩
theorem Cy.drew (h:Cy b w W S A n c l k o bs):Cy b w W.drew S A n c l k o bs:=h.below ((Below.refl _ _).drew)
theorem Cy.step (h:Cy b w W S A n c l k o bs):StepD b w S A n c l k o W:=⟨h.gr,h.rd⟩
theorem Cy.box (h:Cy b w W S A n c l k o bs) (i q:Nat) (vs:List Value) (hi:bs[i]?=some (q,vs)):BoxL W q vs:=(h.bx _ (List.mem_of_getElem? hi)).2.2
theorem Cy.has (h:Cy b w W S A n c l k o bs) (i q:Nat) (vs:List Value) (hi:bs[i]?=some (q,vs)):w.heap.size≤q∧q<W.heap.size:=⟨(h.bx _ (List.mem_of_getElem? hi)).1,(h.box i q vs hi).lt (h.bx _ (List.mem_of_getElem? hi)).2.1⟩
theorem Cy.one {q:Nat} {vs:List Value} (h:Cy b w W S A n c l k o ((q,vs)::bs)):b<w.heap.size∧w.heap.size≤q∧q<W.heap.size:=⟨h.lt,h.has 0 q vs rfl⟩
theorem Cy.two {q q':Nat} {vs vs':List Value} (h:Cy b w W S A n c l k o ((q,vs)::(q',vs')::bs)):b<w.heap.size∧w.heap.size≤q'∧q'<q∧q<W.heap.size:=
 ⟨h.lt,(h.has 1 q' vs' rfl).1,(List.pairwise_cons.1 h.ap).1 (q',vs') (by simp),(h.has 0 q vs rfl).2⟩
theorem Cy.three {q q' q2:Nat} {vs vs' vs2:List Value} (h:Cy b w W S A n c l k o ((q,vs)::(q',vs')::(q2,vs2)::bs)):b<w.heap.size∧w.heap.size≤q2∧q2<q'∧q'<q∧q<W.heap.size:=
 ⟨h.lt,(h.has 2 q2 vs2 rfl).1,(List.pairwise_cons.1 (List.pairwise_cons.1 h.ap).2).1 (q2,vs2) (by simp),(List.pairwise_cons.1 h.ap).1 (q',vs') (by simp),(h.has 0 q vs rfl).2⟩
end
theorem Cy.low {b:Nat} {w W:World} {S:ByteArray} {A:Option Addr} {n c:Nat} {l:List Tok} {k o:Nat} {bs:List (Nat × List Value)} (h:Cy b w W S A n c l k o bs):Below b w W:=below_of_grown h.gr (Nat.le_refl _) (Nat.le_of_lt h.lt)
theorem Cy.put6 {b:Nat} {w W:World} {S:ByteArray} {A:Option Addr} {n c:Nat} {l:List Tok} {k o:Nat} {bs:List (Nat × List Value)} (h:Cy b w W S A n c l k o bs) (i q:Nat) (u0 u1 u2 u3 u4 u5:Value) (hi:bs[i]?=some (q,[u0,u1,u2,u3,u4,u5])) (v0 v1 v2 v3 v4 v5:Value):
  Cy b w ((((((W.setCell ⟨q,0,none⟩ v0).setCell ⟨q,1,none⟩ v1).setCell ⟨q,2,none⟩ v2).setCell ⟨q,3,none⟩ v3).setCell ⟨q,4,none⟩ v4).setCell ⟨q,5,none⟩ v5) S A n c l k o (bs.set i (q,[v0,v1,v2,v3,v4,v5])):=by
 have hl:=(List.getElem?_eq_some_iff.1 hi).1;have e:∀ x:Nat × List Value,(bs.set i x)[i]?=some x:=fun x=>List.getElem?_set_self hl
 have h0:=h.put i q _ hi 0 (by simp) v0;have h1:=h0.put i q _ (e _) 1 (by simp) v1;have h2:=h1.put i q _ (by rw[List.set_set];exact e _) 2 (by simp) v2;have h3:=h2.put i q _ (by rw[List.set_set,List.set_set];exact e _) 3 (by simp) v3;have h4:=h3.put i q _ (by rw[List.set_set,List.set_set,List.set_set];exact e _) 4 (by simp) v4;have h5:=h4.put i q _ (by rw[List.set_set,List.set_set,List.set_set,List.set_set];exact e _) 5 (by simp) v5;rw[List.set_set,List.set_set,List.set_set,List.set_set,List.set_set] at h5;exact h5
theorem Cy.put13 {b:Nat} {w W:World} {S:ByteArray} {A:Option Addr} {n c:Nat} {l:List Tok} {k o:Nat} {bs:List (Nat × List Value)} (h:Cy b w W S A n c l k o bs) (i q:Nat) (u0 u1 u2 u3 u4 u5 u6 u7 u8 u9 u10 u11 u12:Value) (hi:bs[i]?=some (q,[u0,u1,u2,u3,u4,u5,u6,u7,u8,u9,u10,u11,u12])) (v0 v1 v2 v3 v4 v5 v6 v7 v8 v9 v10 v11 v12:Value):
  Cy b w (((((((((((((W.setCell ⟨q,0,none⟩ v0).setCell ⟨q,1,none⟩ v1).setCell ⟨q,2,none⟩ v2).setCell ⟨q,3,none⟩ v3).setCell ⟨q,4,none⟩ v4).setCell ⟨q,5,none⟩ v5).setCell ⟨q,6,none⟩ v6).setCell ⟨q,7,none⟩ v7).setCell ⟨q,8,none⟩ v8).setCell ⟨q,9,none⟩ v9).setCell ⟨q,10,none⟩ v10).setCell ⟨q,11,none⟩ v11).setCell ⟨q,12,none⟩ v12) S A n c l k o (bs.set i (q,[v0,v1,v2,v3,v4,v5,v6,v7,v8,v9,v10,v11,v12])):=by
 have hl:=(List.getElem?_eq_some_iff.1 hi).1;have e:∀ x:Nat × List Value,(bs.set i x)[i]?=some x:=fun x=>List.getElem?_set_self hl
 have h0:=h.put i q _ hi 0 (by simp) v0;have h1:=h0.put i q _ (by first | exact e _ | (simp only[List.set_set];exact e _)) 1 (by simp) v1;have h2:=h1.put i q _ (by first | exact e _ | (simp only[List.set_set];exact e _)) 2 (by simp) v2;have h3:=h2.put i q _ (by first | exact e _ | (simp only[List.set_set];exact e _)) 3 (by simp) v3;have h4:=h3.put i q _ (by first | exact e _ | (simp only[List.set_set];exact e _)) 4 (by simp) v4;have h5:=h4.put i q _ (by first | exact e _ | (simp only[List.set_set];exact e _)) 5 (by simp) v5;have h6:=h5.put i q _ (by first | exact e _ | (simp only[List.set_set];exact e _)) 6 (by simp) v6;have h7:=h6.put i q _ (by first | exact e _ | (simp only[List.set_set];exact e _)) 7 (by simp) v7;have h8:=h7.put i q _ (by first | exact e _ | (simp only[List.set_set];exact e _)) 8 (by simp) v8;have h9:=h8.put i q _ (by first | exact e _ | (simp only[List.set_set];exact e _)) 9 (by simp) v9;have h10:=h9.put i q _ (by first | exact e _ | (simp only[List.set_set];exact e _)) 10 (by simp) v10;have h11:=h10.put i q _ (by first | exact e _ | (simp only[List.set_set];exact e _)) 11 (by simp) v11;have h12:=h11.put i q _ (by first | exact e _ | (simp only[List.set_set];exact e _)) 12 (by simp) v12;simp only[List.set_set] at h12;exact h12
end
theorem DocS.atx {b:Nat} {w:World} {S:ByteArray} {A:Option Addr} {n c:Nat} {l:List Tok} {k o:Nat} (h:DocS b w S A n c l k o):∃ a,a≤n∧a≤4000∧(o=0→a=k)∧(if o=0 then a else k)=k∧w.cell? ⟨b,2,none⟩=some (.int .i64 a)∧∀ w',Below w.heap.size w w'→w'.cell? ⟨b,2,none⟩=some (.int .i64 a):=by
 obtain⟨a,p,h2,_,h4,h5,_⟩:=h.ex;refine⟨a,h4,Nat.le_trans h4 h.few,fun e=>(h5 e).1,?_,h2,fun w' hb=>(hb.cell (p:=⟨b,2,none⟩) h.lt).trans h2⟩
 split
 ·rename_i e;exact(h5 e).1
 ·rfl
abbrev FaiC (b:Nat) (S:ByteArray) (A:Option Addr) (n c:Nat) (l:List Tok) (m:Nat) (z:Int) (k o k2 o2:Nat):Prop:=Hid (∀ w',DocS b w' S A n c l k o→Calls Tryz.prog 25 #[.pointer (some ⟨b,0,none⟩),.int .i64 m,.int .i64 z] w' fun e w2=>e= .returned (.tuple #[])∧StepD b w' S A n c l k2 o2 w2)
theorem faiC (b:Nat) (S:ByteArray) (A:Option Addr) (n c:Nat) (l:List Tok) (m er k o:Nat) (he:er=1∨er=8) (hm:m≤n) {z:Int} (hz:z=er) {k2 o2:Nat} (h1:(if o=0 then m else k)=k2) (h2:(if o=0 then er else o)=o2):FaiC b S A n c l m z k o k2 o2:=Lib.hid fun w' h=>by
 rw[←h1,←h2,hz];exact dfail_any m er he b w' S A n c l k o h hm
abbrev IsC (b:Nat) (S:ByteArray) (A:Option Addr) (n c:Nat) (l:List Tok) (kd:Int) (W:ByteArray) (k o:Nat) (v:Bool):Prop:=Hid (∀ w',DocS b w' S A n c l k o→Calls Tryz.prog 41 #[.pointer (some ⟨b,0,none⟩),.int .i64 kd,.string W] w' fun e w2=>e= .returned (.bool v)∧Below w'.heap.size w' w2)
theorem isC (b:Nat) (S:ByteArray) (A:Option Addr) (n c:Nat) (l:List Tok) (kd:Int) (hkd:kd≠0) (W:ByteArray) (k o:Nat) {v:Bool} (hv:isO l kd W.data.toList k o=v):IsC b S A n c l kd W k o v:=Lib.hid fun w' h=>by
 rw[←hv];exact dis_any kd hkd W b w' S A n c l k o h
abbrev NeeC (b:Nat) (S:ByteArray) (A:Option Addr) (n c:Nat) (l:List Tok) (kd:Int) (W:ByteArray) (k o k2 o2:Nat):Prop:=Hid (∀ w',DocS b w' S A n c l k o→Calls Tryz.prog 93 #[.pointer (some ⟨b,0,none⟩),.int .i64 kd,.string W] w' fun e w2=>e= .returned (.tuple #[])∧StepD b w' S A n c l k2 o2 w2)
theorem dneed_any (kd:Int) (hkd:kd≠0) (W:ByteArray) (b:Nat) (w:World) (S:ByteArray) (A:Option Addr) (n c:Nat) (l:List Tok) (k o:Nat) (h:DocS b w S A n c l k o):
  Calls Tryz.prog 93 #[.pointer (some ⟨b,0,none⟩),.int .i64 kd,.string W] w fun e w'=>e= .returned (.tuple #[])∧StepD b w S A n c l (gate o k (needF l kd W.data.toList)).at (gate o k (needF l kd W.data.toList)).err w':=by
 have H:=Lib.hid h;have hbl:=h.lt;have hl:=h.len
 cases hv:isO l kd W.data.toList k o with
 | true=>
   have K:=isC b S A n c l kd hkd W k o hv;obtain⟨rfl,h2⟩:=isO_lt hkd hv;have e1:gate 0 k (needF l kd W.data.toList)= .ok () (k+1):=by rw[gate_ok];unfold needF;rw[if_pos h2]
   rw[e1];show Calls _ _ _ _ fun e w'=>e= .returned (.tuple #[])∧StepD b w S A n c l (k+1) 0 w'
   have hk:=isT_lt h2 hkd;have HK:Hid (k+1≤n):=Lib.hid (by omega);have hk2:k≤1000000:=by omega
   clear h hv h2 e1 hkd hk hl;go_enter Tryz.func93,Tryz.ntmps93;go_wp2_with (go_at_call 41;go_must (((with_reducible refine(K.out _ H.out).mono ?_));rintro e w1 ⟨rfl,hb1⟩;have HB1:=Lib.hid hb1;have h1:=H.out.low hb1;have H1:=Lib.hid h1;have x2:=h1.at0;have f2:=h1.f2;clear hb1 h1))
   go_end0
   exact⟨rfl,grown_trans (grown_below HB1.out) (grown_set _ _ _ _),H1.out.place (k+1) ((k:Int)+1) (by omega) HK.out⟩
 | false=>
   have K:=isC b S A n c l kd hkd W k o hv
   have e1:(gate o k (needF l kd W.data.toList)).at=k∧(gate o k (needF l kd W.data.toList)).err=if o=0 then 1 else o:=by
    rcases h.oks with rfl | ho
    ·rw[gate_ok]
     unfold needF;rw[if_neg (by rw[←isO_zero,hv];decide)];exact⟨rfl,rfl⟩
    ·rw[if_neg (by omega)];exact(gate_err ho).symm
   rw[e1.1,e1.2];obtain⟨a,ha,ha2,_,hk2,_,hcx⟩:=h.atx;have KR:=faiC (z:=1) b S A n c l a 1 k o (.inl rfl) ha rfl hk2 rfl;have HX:=Lib.hid hcx;generalize (if o=0 then 1 else o)=o2 at KR ⊢;clear h hv e1 hk2 hcx hl;go_enter Tryz.func93,Tryz.ntmps93;go_wp2_with (first | (go_at_call 41;go_must (((with_reducible refine(K.out _ H.out).mono ?_));rintro e w1 ⟨rfl,hb1⟩;have HB1:=Lib.hid hb1;have x2:=HX.out _ hb1;clear hb1)) | (go_at_call 25;go_must (((with_reducible refine(KR.out _ (H.out.low HB1.out)).mono ?_));rintro e w2 ⟨rfl,hs2⟩;have HS2:=Lib.hid hs2;clear hs2)));refine bodyPost_ret (results_none (by rfl) _ _ _) rfl ?_;exact⟨rfl,grown_trans (grown_below HB1.out) HS2.out.1,HS2.out.2⟩
theorem neeC (b:Nat) (S:ByteArray) (A:Option Addr) (n c:Nat) (l:List Tok) (kd:Int) (hkd:kd≠0) (W:ByteArray) (k o:Nat) {k2 o2:Nat} (h1:(gate o k (needF l kd W.data.toList)).at=k2) (h2:(gate o k (needF l kd W.data.toList)).err=o2):NeeC b S A n c l kd W k o k2 o2:=Lib.hid fun w' h=>by
 rw[←h1,←h2];exact dneed_any kd hkd W b w' S A n c l k o h
abbrev TakC (b:Nat) (S:ByteArray) (A:Option Addr) (n c:Nat) (l:List Tok) (kd:Int) (k o:Nat) (R:Rz Tok):Prop:=Hid (∀ w',DocS b w' S A n c l k o→Calls Tryz.prog 66 #[.pointer (some ⟨b,0,none⟩),.int .i64 kd] w' fun e w2=>
 ∃ t A' c',e= .returned (.agg #[.int .i64 t.kind,.string ⟨t.word.toArray⟩,.int .i64 t.n,.slice A' t.parts.length c',.int .i64 t.pl])∧StepD b w' S A n c l R.at R.err w2∧Rd b w2 A' t.parts.length t.parts∧∀ y j,R= .ok y j→y=t)
theorem dtake_yes (kd:Int) (b:Nat) (w:World) (S:ByteArray) (A:Option Addr) (n c:Nat) (l:List Tok) (k:Nat) (h:DocS b w S A n c l k 0) (t:Tok) (ht:l[k]?=some t) (hkd:t.kind=kd):
  Calls Tryz.prog 66 #[.pointer (some ⟨b,0,none⟩),.int .i64 kd] w fun e w2=>∃ A' c',e= .returned (.agg #[.int .i64 t.kind,.string ⟨t.word.toArray⟩,.int .i64 t.n,.slice A' t.parts.length c',.int .i64 t.pl])∧StepD b w S A n c l (k+1) 0 w2∧Rd b w2 A' t.parts.length t.parts:=by
 have H:=Lib.hid (Cy.start h);have hbl:=h.lt;have hl:=h.len;have hk:=(List.getElem?_eq_some_iff.1 ht).1;obtain⟨ad,A',c',rfl,h5,_⟩:=h.row.at_ ht
 obtain⟨x0,_,_,_,_⟩:=h5;have hbt:(ad.add (k * 5)).block<w.heap.size:=World.block_lt_of_cell? w _ x0;have HT:=Lib.hid ht;have HK:Hid (k+1≤n):=Lib.hid (by omega);have c1:=h.c1;have c2:=h.at0;have c4:=h.c4;have f2:=h.f2;have hk1:(k:Int)<n:=by omega
 have hk2:k≤1000000:=by omega
 have hn2:n≤1000000:=by omega
 have b1:(t.kind != kd)=false:=by rw[hkd];simp
 have hk3:¬ n≤k:=by omega
 obtain⟨T,hT⟩:∃ T:ByteArray,T=⟨t.word.toArray⟩:=⟨_,rfl⟩;obtain⟨m,hm⟩:∃ m,m=t.parts.length:=⟨_,rfl⟩;rw[←hT,←hm];have HTT:=Lib.hid hT;have HM:=Lib.hid hm;clear ht h hl hk hkd hT hm;go_enter Tryz.func66,Tryz.ntmps66;go_wp2;go_quiet (fail);go_wp2;obtain⟨W1,hW1⟩:∃ W1,W1=((w.alloc (.cells #[.int .i64 0,.string ⟨#[]⟩,.int .i64 0,.slice none 0 0,.int .i64 0] 105)).drewN nq).setCell ⟨b,2,none⟩ (.int .i64 ((k:Int)+1)):=⟨_,rfl⟩;have HC:Hid (Cy b w W1 S (some ad) n c l (k+1) 0 [(w.heap.size,zeroT)]):=Lib.hid (by rw[hW1];exact((H.out.alloc 105 zeroT (by simp)).drews nq).place (k+1) ((k:Int)+1) (by omega) HK.out);rw[←hW1];clear hW1 c1 c2 c4 f2 x0;obtain⟨ad2,A2,c2,e2,h5,hrd⟩:=HC.out.rd.row.at_ HT.out
 injection e2 with e2
 subst e2;obtain⟨x0,x1,x2,x3,x4⟩:=h5;rw[←HM.out] at hrd x3;rw[←HTT.out] at x1;have HRD:=Lib.hid hrd;have d1:=HC.out.rd.c1;have d2:=HC.out.rd.at0;rw[show (((k+1:Nat):Int))=(k:Int)+1 by omega] at d2;obtain⟨q0,q1,q2⟩:=HC.out.one;obtain⟨g0,g1,g2,g3,g4⟩:=(HC.out.box 0 w.heap.size zeroT rfl).all5;obtain⟨j0,j1,j2,j3,j4⟩:=(HC.out.box 0 w.heap.size zeroT rfl).fre5;clear hrd
 go_region
 go_wp2;have HE:=(HC.out.put5 0 w.heap.size _ _ _ _ _ rfl (.int .i64 t.kind) (.string T) (.int .i64 t.n) (.slice A2 m c2) (.int .i64 t.pl)).drew;obtain⟨r0,r1,r2,r3,r4⟩:=(HE.box 0 w.heap.size _ rfl).all5;refine bodyPost_ret (v:= .agg #[.int .i64 t.kind,.string T,.int .i64 t.n,.slice A2 m c2,.int .i64 t.pl]) (by simp[results,Tryz.results66,go_sem,r0,r1,r2,r3,r4]) rfl ⟨A2,c2,rfl,HE.step,?_⟩;exact(HRD.out.back HC.out.low).keep HE.low
theorem dtake_no (kd:Int) (b:Nat) (w:World) (S:ByteArray) (A:Option Addr) (n c:Nat) (l:List Tok) (k o:Nat) (h:DocS b w S A n c l k o) (hno:o=0→(nxz l k).kind≠kd) (o2:Nat) (ho2:(if o=0 then 1 else o)=o2):
  Calls Tryz.prog 66 #[.pointer (some ⟨b,0,none⟩),.int .i64 kd] w fun e w2=>e= .returned (.agg #[.int .i64 0,.string ⟨#[]⟩,.int .i64 0,.slice none 0 0,.int .i64 0])∧StepD b w S A n c l k o2 w2:=by
 have H:=Lib.hid (Cy.start h);have hbl:=h.lt;have hl:=h.len;obtain⟨a,ha,ha2,_,hk2,hcx,hcx2⟩:=h.atx;have HX:=Lib.hid hcx2;have KR:=faiC (z:=1) b S A n c l a 1 k o (.inl rfl) ha rfl hk2 ho2;have c1:=h.c1;have c4:=h.c4;by_cases o0:o=0
 ·subst o0
  have c2:=h.at0;have hak:a=k:=by rw[if_pos rfl] at hk2;exact hk2
  subst hak;by_cases hk:a<n
  ·obtain⟨t,ht⟩:∃ t,l[a]?=some t:=⟨_,List.getElem?_eq_getElem (by omega)⟩
   obtain⟨ad,A',c',rfl,h5,_⟩:=h.row.at_ ht
   obtain⟨x0,_,_,_,_⟩:=h5;have hbt:(ad.add (a * 5)).block<w.heap.size:=World.block_lt_of_cell? w _ x0;have hne:=hno rfl;rw[nxz_at ht] at hne;have b1:(t.kind != kd)=true:=by simpa using hne
   have hk1:(a:Int)<n:=by omega
   have hk3:¬ n≤a:=by omega
   have hn2:n≤1000000:=by omega
   clear ht h hl hno hne ho2 hcx hk2 hcx2;go_enter Tryz.func66,Tryz.ntmps66;go_wp2;go_quiet (fail);have HC:=Lib.hid ((H.out.alloc 105 zeroT (by simp)).drews nq);have x2:=HX.out _ (below_drewN (one_boxX w (.cells zeroT.toArray 105)) nq);go_wp2_with (go_at_call 25;go_must (((with_reducible refine(KR.out _ HC.out.rd).mono ?_));rintro e w2 ⟨rfl,hs2⟩;have HD:=Lib.hid (HC.out.call hs2);obtain⟨q0,q1,q2⟩:=HD.out.one;obtain⟨g0,g1,g2,g3,g4⟩:=(HD.out.box 0 w.heap.size zeroT rfl).all5;obtain⟨j0,j1,j2,j3,j4⟩:=(HD.out.box 0 w.heap.size zeroT rfl).fre5;clear hs2));have HE:=HD.out.put5 0 w.heap.size _ _ _ _ _ rfl (.int .i64 0) (.string ⟨#[]⟩) (.int .i64 0) (.slice none 0 0) (.int .i64 0);obtain⟨r0,r1,r2,r3,r4⟩:=(HE.box 0 w.heap.size _ rfl).all5;exact bodyPost_ret (v:= .agg #[.int .i64 0,.string ⟨#[]⟩,.int .i64 0,.slice none 0 0,.int .i64 0]) (by simp[results,Tryz.results66,go_sem,r0,r1,r2,r3,r4]) rfl ⟨rfl,HE.step⟩
  ·have hk1:¬ (a:Int)<n:=by omega
   have hk3:n≤a:=by omega
   clear h hl hno ho2 hcx hk2 hcx2;go_enter Tryz.func66,Tryz.ntmps66;go_wp2;go_quiet (fail);have HC:=Lib.hid ((H.out.alloc 105 zeroT (by simp)).drews nq);have x2:=HX.out _ (below_drewN (one_boxX w (.cells zeroT.toArray 105)) nq);go_wp2_with (go_at_call 25;go_must (((with_reducible refine(KR.out _ HC.out.rd).mono ?_));rintro e w2 ⟨rfl,hs2⟩;have HD:=Lib.hid (HC.out.call hs2);obtain⟨q0,q1,q2⟩:=HD.out.one;obtain⟨g0,g1,g2,g3,g4⟩:=(HD.out.box 0 w.heap.size zeroT rfl).all5;obtain⟨j0,j1,j2,j3,j4⟩:=(HD.out.box 0 w.heap.size zeroT rfl).fre5;clear hs2));have HE:=HD.out.put5 0 w.heap.size _ _ _ _ _ rfl (.int .i64 0) (.string ⟨#[]⟩) (.int .i64 0) (.slice none 0 0) (.int .i64 0);obtain⟨r0,r1,r2,r3,r4⟩:=(HE.box 0 w.heap.size _ rfl).all5;exact bodyPost_ret (v:= .agg #[.int .i64 0,.string ⟨#[]⟩,.int .i64 0,.slice none 0 0,.int .i64 0]) (by simp[results,Tryz.results66,go_sem,r0,r1,r2,r3,r4]) rfl ⟨rfl,HE.step⟩
 ·obtain⟨b1,b2,b3,b4⟩:=neq0_f o0
  clear h hl hno ho2 hcx hk2 hcx2 o0;go_enter Tryz.func66,Tryz.ntmps66;go_wp2;go_quiet (fail);have HC:=Lib.hid ((H.out.alloc 105 zeroT (by simp)).drews nq);have x2:=HX.out _ (below_drewN (one_boxX w (.cells zeroT.toArray 105)) nq);go_wp2_with (go_at_call 25;go_must (((with_reducible refine(KR.out _ HC.out.rd).mono ?_));rintro e w2 ⟨rfl,hs2⟩;have HD:=Lib.hid (HC.out.call hs2);obtain⟨q0,q1,q2⟩:=HD.out.one;obtain⟨g0,g1,g2,g3,g4⟩:=(HD.out.box 0 w.heap.size zeroT rfl).all5;obtain⟨j0,j1,j2,j3,j4⟩:=(HD.out.box 0 w.heap.size zeroT rfl).fre5;clear hs2));have HE:=HD.out.put5 0 w.heap.size _ _ _ _ _ rfl (.int .i64 0) (.string ⟨#[]⟩) (.int .i64 0) (.slice none 0 0) (.int .i64 0);obtain⟨r0,r1,r2,r3,r4⟩:=(HE.box 0 w.heap.size _ rfl).all5;exact bodyPost_ret (v:= .agg #[.int .i64 0,.string ⟨#[]⟩,.int .i64 0,.slice none 0 0,.int .i64 0]) (by simp[results,Tryz.results66,go_sem,r0,r1,r2,r3,r4]) rfl ⟨rfl,HE.step⟩
theorem takC (b:Nat) (S:ByteArray) (A:Option Addr) (n c:Nat) (l:List Tok) (kd:Int) (hkd:kd≠0) (k o:Nat) {R:Rz Tok} (hR:gate o k (kindF l kd)=R):TakC b S A n c l kd k o R:=Lib.hid fun w' h=>by
 subst hR;by_cases e1:o=0∧(nxz l k).kind=kd
 ·obtain⟨rfl,e1⟩:=e1
  have hk:k<l.length:=nxz_lt (by rw[e1];exact hkd)
  have eR:gate 0 k (kindF l kd)= .ok l[k] (k+1):=by
   rw[gate_ok];unfold kindF;rw[if_pos e1,nxz_at (List.getElem?_eq_getElem hk)]
  rw[eR];rw[nxz_at (List.getElem?_eq_getElem hk)] at e1;exact(dtake_yes kd b w' S A n c l k h l[k] (List.getElem?_eq_getElem hk) e1).mono fun e w2 ⟨A',c',h1,h2,h3⟩=>⟨l[k],A',c',h1,h2,h3,fun y j hy=>by injection hy with hy;exact hy.symm⟩
 ·have eR:(gate o k (kindF l kd)).at=k∧(gate o k (kindF l kd)).err=(if o=0 then 1 else o)∧∀ y j,gate o k (kindF l kd)≠ .ok y j:=by
   rcases h.oks with rfl | ho
   ·have:gate 0 k (kindF l kd)= .bad k false:=by rw[gate_ok];exact if_neg fun e=>e1 ⟨rfl,e⟩
    rw[this];exact⟨rfl,rfl,fun _ _ e=>by cases e⟩
   ·rw[if_neg (by omega)];exact⟨(gate_err ho).2,(gate_err ho).1,fun _ _=>gate_bad (by omega)⟩
  rw[eR.1];exact(dtake_no kd b w' S A n c l k o h (fun ho e=>e1 ⟨ho,e⟩) _ eR.2.1.symm).mono fun e w2 ⟨h1,h2⟩=>⟨tokZ,none,0,h1,h2,⟨rfl,fun h=>absurd h (by simp[tokZ])⟩,fun y j hy=>absurd hy (eR.2.2 y j)⟩
theorem dname_no (b:Nat) (w:World) (S:ByteArray) (A:Option Addr) (n c:Nat) (l:List Tok) (k o:Nat) (h:DocS b w S A n c l k o) (hno:o=0→¬ ((nxz l k).kind=1∧isName (nxz l k).word=true)) (o2:Nat) (ho2:(if o=0 then 1 else o)=o2):
  Calls Tryz.prog 65 #[.pointer (some ⟨b,0,none⟩)] w fun e w2=>e= .returned (.string ⟨#[]⟩)∧StepD b w S A n c l k o2 w2:=by
 have H:=Lib.hid (Cy.start h);have hbl:=h.lt;have hl:=h.len;obtain⟨a,ha,ha2,_,hk2,hcx,hcx2⟩:=h.atx;have HX:=Lib.hid hcx2;have KR:=faiC (z:=1) b S A n c l a 1 k o (.inl rfl) ha rfl hk2 ho2;have c1:=h.c1;have c4:=h.c4;by_cases o0:o=0
 ·subst o0
  have c2:=h.at0;have hak:a=k:=by rw[if_pos rfl] at hk2;exact hk2
  subst hak;by_cases hk:a<n
  ·obtain⟨t,ht⟩:∃ t,l[a]?=some t:=⟨_,List.getElem?_eq_getElem (by omega)⟩
   obtain⟨ad,A',c',rfl,h5,_⟩:=h.row.at_ ht
   obtain⟨x0,x1,_,_,_⟩:=h5;have hbt:(ad.add (a * 5)).block<w.heap.size:=World.block_lt_of_cell? w _ x0;have hne:=hno rfl;rw[nxz_at ht] at hne;have hk1:(a:Int)<n:=by omega
   have hk3:¬ n≤a:=by omega
   have hn2:n≤1000000:=by omega
   by_cases e1:t.kind=1
   ·have b1:(t.kind==1)=true:=by simp[e1]
    have hv:isName t.word=false:=by
     cases hv:isName t.word with
     | false=>rfl
     | true=>exact absurd ⟨e1,hv⟩ hne
    have htw:=(h.fit.fit t (List.mem_of_getElem? ht)).word
    have KN:Hid (∀ w',Calls Tryz.prog 60 #[.string ⟨t.word.toArray⟩] w' fun e w2=>e= .returned (.bool false)∧w2=w'):=Lib.hid fun w'=>by
     have:=rname_any ⟨t.word.toArray⟩ (by simp[ByteArray.size];omega) w';rw[show isName (⟨t.word.toArray⟩:ByteArray).data.toList=false from hv] at this;exact this.mono fun _ _ ⟨h1,h2⟩=>⟨h1,h2.symm⟩
    obtain⟨T,hT⟩:∃ T:ByteArray,T=⟨t.word.toArray⟩:=⟨_,rfl⟩;rw[←hT] at x1 KN;clear hT htw hv e1;clear ht h hl hno hne ho2 hcx hk2 hcx2;go_enter Tryz.func65,Tryz.ntmps65;go_wp2;go_quiet ((go_at_call 60;with_reducible exact Calls.quiet_of_same (KN.out _)));have HC:=Lib.hid (H.out.drews nq);have x2:=HX.out _ (below_drewN (Below.refl _ _) nq);go_wp2_with (go_at_call 25;go_must (((with_reducible refine(KR.out _ HC.out.rd).mono ?_));rintro e w2 ⟨rfl,hs2⟩;have HD:=Lib.hid (HC.out.call hs2);clear hs2));go_ret;exact⟨rfl,HD.out.step⟩
   ·have b1:(t.kind==1)=false:=by simpa using e1
    clear x1 e1;clear ht h hl hno hne ho2 hcx hk2 hcx2;go_enter Tryz.func65,Tryz.ntmps65;go_wp2;go_quiet (fail);have HC:=Lib.hid (H.out.drews nq);have x2:=HX.out _ (below_drewN (Below.refl _ _) nq);go_wp2_with (go_at_call 25;go_must (((with_reducible refine(KR.out _ HC.out.rd).mono ?_));rintro e w2 ⟨rfl,hs2⟩;have HD:=Lib.hid (HC.out.call hs2);clear hs2));go_ret;exact⟨rfl,HD.out.step⟩
  ·have hk1:¬ (a:Int)<n:=by omega
   have hk3:n≤a:=by omega
   clear h hl hno ho2 hcx hk2 hcx2;go_enter Tryz.func65,Tryz.ntmps65;go_wp2;go_quiet (fail);have HC:=Lib.hid (H.out.drews nq);have x2:=HX.out _ (below_drewN (Below.refl _ _) nq);go_wp2_with (go_at_call 25;go_must (((with_reducible refine(KR.out _ HC.out.rd).mono ?_));rintro e w2 ⟨rfl,hs2⟩;have HD:=Lib.hid (HC.out.call hs2);clear hs2));go_ret;exact⟨rfl,HD.out.step⟩
 ·obtain⟨b1,b2,b3,b4⟩:=neq0_f o0
  clear h hl hno ho2 hcx hk2 hcx2 o0;go_enter Tryz.func65,Tryz.ntmps65;go_wp2;go_quiet (fail);have HC:=Lib.hid (H.out.drews nq);have x2:=HX.out _ (below_drewN (Below.refl _ _) nq);go_wp2_with (go_at_call 25;go_must (((with_reducible refine(KR.out _ HC.out.rd).mono ?_));rintro e w2 ⟨rfl,hs2⟩;have HD:=Lib.hid (HC.out.call hs2);clear hs2));go_ret;exact⟨rfl,HD.out.step⟩
theorem dname_yes (b:Nat) (w:World) (S:ByteArray) (A:Option Addr) (n c:Nat) (l:List Tok) (k:Nat) (h:DocS b w S A n c l k 0) (t:Tok) (ht:l[k]?=some t) (e1:t.kind=1) (hv:isName t.word=true):
  Calls Tryz.prog 65 #[.pointer (some ⟨b,0,none⟩)] w fun e w2=>e= .returned (.string ⟨t.word.toArray⟩)∧StepD b w S A n c l (k+1) 0 w2:=by
 have H:=Lib.hid (Cy.start h);have hbl:=h.lt;have hl:=h.len;have c1:=h.c1;have c2:=h.at0;have c4:=h.c4;have f2:=h.f2;have HT:=Lib.hid ht;have hk:k<n:=by have:=(List.getElem?_eq_some_iff.1 ht).1;omega
 have HK:Hid (k+1≤n):=Lib.hid (by omega);obtain⟨ad,A',c',rfl,h5,_⟩:=h.row.at_ ht
 obtain⟨x0,x1,_,_,_⟩:=h5;have hbt:(ad.add (k * 5)).block<w.heap.size:=World.block_lt_of_cell? w _ x0;have hk1:(k:Int)<n:=by omega
 have hk2:k≤1000000:=by omega
 have hn2:n≤1000000:=by omega
 have b1:(t.kind==1)=true:=by simp[e1]
 have htw:=(h.fit.fit t (List.mem_of_getElem? ht)).word
 have KN:Hid (∀ w',Calls Tryz.prog 60 #[.string ⟨t.word.toArray⟩] w' fun e w2=>e= .returned (.bool true)∧w2=w'):=Lib.hid fun w'=>by
  have:=rname_any ⟨t.word.toArray⟩ (by simp[ByteArray.size];omega) w';rw[show isName (⟨t.word.toArray⟩:ByteArray).data.toList=true from hv] at this;exact this.mono fun _ _ ⟨h1,h2⟩=>⟨h1,h2.symm⟩
 obtain⟨T,hT⟩:∃ T:ByteArray,T=⟨t.word.toArray⟩:=⟨_,rfl⟩;rw[←hT] at x1 KN ⊢;have HTT:=Lib.hid hT;clear ht h hl hk hT htw hv e1;go_enter Tryz.func65,Tryz.ntmps65;go_wp2;go_quiet ((go_at_call 60;with_reducible exact Calls.quiet_of_same (KN.out _)));go_wp2;obtain⟨W1,hW1⟩:∃ W1,W1=(w.drewN nq).setCell ⟨b,2,none⟩ (.int .i64 ((k:Int)+1)):=⟨_,rfl⟩;have HC:Hid (Cy b w W1 S (some ad) n c l (k+1) 0 []):=Lib.hid (by rw[hW1];exact(H.out.drews nq).place (k+1) ((k:Int)+1) (by omega) HK.out);rw[←hW1];clear hW1 c1 c2 c4 f2 x0 x1;obtain⟨ad2,A2,c2,e2,h5,_⟩:=HC.out.rd.row.at_ HT.out
 injection e2 with e2
 subst e2;obtain⟨_,x1,_,_,_⟩:=h5;rw[←HTT.out] at x1;have d1:=HC.out.rd.c1;have d2:=HC.out.rd.at0;rw[show (((k+1:Nat):Int))=(k:Int)+1 by omega] at d2;go_quiet (fail);go_wp2;go_ret;exact⟨rfl,(HC.out.drews _).step⟩
abbrev NaC (b:Nat) (S:ByteArray) (A:Option Addr) (n c:Nat) (l:List Tok) (k o:Nat) (R:Rz Bs):Prop:=Hid (∀ w',DocS b w' S A n c l k o→Calls Tryz.prog 65 #[.pointer (some ⟨b,0,none⟩)] w' fun e w2=>∃ s:Bs,e= .returned (.string ⟨s.toArray⟩)∧StepD b w' S A n c l R.at R.err w2∧∀ y j,R= .ok y j→y=s)
theorem naC (b:Nat) (S:ByteArray) (A:Option Addr) (n c:Nat) (l:List Tok) (k o:Nat) {R:Rz Bs} (hR:gate o k (nameF l)=R):NaC b S A n c l k o R:=Lib.hid fun w' h=>by
 subst hR;by_cases e1:o=0∧(nxz l k).kind=1∧isName (nxz l k).word=true
 ·obtain⟨rfl,e1⟩:=e1
  have hk:k<l.length:=nxz_lt (by rw[e1.1];decide)
  have eR:gate 0 k (nameF l)= .ok l[k].word (k+1):=by
   rw[gate_ok];unfold nameF;rw[if_pos e1,nxz_at (List.getElem?_eq_getElem hk)]
  rw[eR];rw[nxz_at (List.getElem?_eq_getElem hk)] at e1;exact(dname_yes b w' S A n c l k h l[k] (List.getElem?_eq_getElem hk) e1.1 e1.2).mono fun e w2 ⟨h1,h2⟩=>⟨l[k].word,h1,h2,fun y j hy=>by injection hy with hy;exact hy.symm⟩
 ·have eR:(gate o k (nameF l)).at=k∧(gate o k (nameF l)).err=(if o=0 then 1 else o)∧∀ y j,gate o k (nameF l)≠ .ok y j:=by
   rcases h.oks with rfl | ho
   ·have:gate 0 k (nameF l)= .bad k false:=by rw[gate_ok];exact if_neg fun e=>e1 ⟨rfl,e⟩
    rw[this];exact⟨rfl,rfl,fun _ _ e=>by cases e⟩
   ·rw[if_neg (by omega)];exact⟨(gate_err ho).2,(gate_err ho).1,fun _ _=>gate_bad (by omega)⟩
  rw[eR.1];exact(dname_no b w' S A n c l k o h (fun ho e=>e1 ⟨ho,e⟩) _ eR.2.1.symm).mono fun e w2 ⟨h1,h2⟩=>⟨[],h1,h2,fun y j hy=>absurd hy (eR.2.2 y j)⟩
theorem DocS.four0 {b:Nat} {w:World} {S:ByteArray} {A:Option Addr} {n c:Nat} {l:List Tok} {k:Nat} (h:DocS b w S A n c l k 0):w.cell? ⟨b,1,none⟩=some (.slice A n c)∧w.cell? ⟨b,2,none⟩=some (.int .i64 k)∧w.cell? ⟨b,4,none⟩=some (.int .i64 0)∧w.frozen? ⟨b,2,none⟩=false:=⟨h.c1,h.at0,h.c4,h.f2⟩
theorem DocS.c14 {b:Nat} {w:World} {S:ByteArray} {A:Option Addr} {n c:Nat} {l:List Tok} {k o:Nat} (h:DocS b w S A n c l k o):w.cell? ⟨b,1,none⟩=some (.slice A n c)∧w.cell? ⟨b,4,none⟩=some (.int .i64 o):=⟨h.c1,h.c4⟩
theorem DocS.box {b:Nat} {w:World} {S:ByteArray} {A:Option Addr} {n c:Nat} {l:List Tok} {k o:Nat} (h:DocS b w S A n c l k o) (x:Obj):DocS b (w.alloc x) S A n c l k o:=h.low ((Below.refl _ _).alloc (Nat.le_refl _) _)
abbrev PadC (b:Nat) (S:ByteArray) (A:Option Addr) (n c:Nat) (l:List Tok) (i:Nat) (x:Ex) (j er:Nat):Prop:=Hid (∀ w',DocS b w' S A n c l i 0→Calls Tryz.prog 94 #[.slice A n c,.int .i64 i] w' fun e w2=>∃ A2 c2,
 e= .returned (.tuple #[.agg #[.int .i64 x.kind,.int .i64 x.n,.string ⟨x.name.toArray⟩,.string ⟨x.op.toArray⟩,.slice A2 x.kids.length c2],.int .i64 j,.int .i64 er])∧Below w'.heap.size w' w2∧KidsX (FrX w'.heap.size w2.heap.size) w2 A2 x)
theorem dparse_x {b:Nat} {w:World} {S:ByteArray} {A:Option Addr} {n c:Nat} {l:List Tok} {k:Nat} (h:DocS b w S A n c l k 0):Calls Tryz.prog 94 #[.slice A n c,.int .i64 k] w (PostPF w (exR l k)):=
 parseRF_any A n c l k w (h.row.up (Nat.le_of_lt h.lt)) (by have:=h.len;omega) (by have:=h.le;have:=h.len;omega) (exR l k) (exR_spec (by have:=h.le;have:=h.len;omega))
theorem padC_ok {b:Nat} {S:ByteArray} {A:Option Addr} {n c:Nat} {l:List Tok} {i:Nat} {x:Ex} {j:Nat} (h:exR l i= .ok x j):PadC b S A n c l i x j 0:=Lib.hid fun w' h'=>by
 have:=dparse_x h';rw[h] at this;exact this.mono fun e w2 ⟨hb,A2,c2,he,hk⟩=>⟨A2,c2,he,hb,hk⟩
theorem padC_bad {b:Nat} {S:ByteArray} {A:Option Addr} {n c:Nat} {l:List Tok} {i:Nat} {j er:Nat} (h:exR l i= .bad j er):PadC b S A n c l i exNone j er:=Lib.hid fun w' h'=>by
 have:=dparse_x h';rw[h] at this;exact this.mono fun e w2 ⟨hb,he⟩=>⟨none,0,he,hb,KidsX.leaf _ _ _ _ _ _ _⟩
theorem dcond_no (b:Nat) (w:World) (S:ByteArray) (A:Option Addr) (n c:Nat) (l:List Tok) (k o o2:Nat) (h:DocS b w S A n c l k o) (KN:NeeC b S A n c l 4 ⟨#[40]⟩ k o k o2) (ho:¬ o2=0):
  Calls Tryz.prog 67 #[.pointer (some ⟨b,0,none⟩)] w fun e w'=>e= .returned (.agg #[.int .i64 0,.int .i64 0,.string ⟨#[]⟩,.string ⟨#[]⟩,.slice none 0 0])∧StepD b w S A n c l k o2 w':=by
 have H:=Lib.hid (Cy.start h);obtain⟨b1,b2,b3,b4⟩:=neq0_f ho;obtain⟨a,_,_,_,_,x2,_⟩:=h.atx;have hlt:=H.out.lt;clear h ho;go_enter Tryz.func67,Tryz.ntmps67;go_wp2_with (first | (go_at_call 93;go_must (((with_reducible refine(KN.out _ (H.out.rd.box _)).mono ?_));rintro e w1 ⟨rfl,hs1⟩;have HC:=Lib.hid ((H.out.alloc 44 zeroXs (by simp)).call hs1);obtain⟨d1,d4⟩:=HC.out.rd.c14;obtain⟨q0,q1,q2⟩:=HC.out.one;obtain⟨g0,g1,g2,g3,g4⟩:=(HC.out.box 0 w.heap.size zeroXs rfl).all5;obtain⟨j0,j1,j2,j3,j4⟩:=(HC.out.box 0 w.heap.size zeroXs rfl).fre5;clear hs1)));have HE:=HC.out.put5 0 w.heap.size _ _ _ _ _ rfl (.int .i64 0) (.int .i64 0) (.string ⟨#[]⟩) (.string ⟨#[]⟩) (.slice none 0 0);obtain⟨r0,r1,r2,r3,r4⟩:=(HE.box 0 w.heap.size _ rfl).all5;exact bodyPost_ret (v:= .agg #[.int .i64 0,.int .i64 0,.string ⟨#[]⟩,.string ⟨#[]⟩,.slice none 0 0]) (by simp[results,Tryz.results67,go_sem,r0,r1,r2,r3,r4]) rfl ⟨rfl,HE.step⟩
theorem dcond_bad (b:Nat) (w:World) (S:ByteArray) (A:Option Addr) (n c:Nat) (l:List Tok) (k i:Nat) (x:Ex) (j er:Nat) (h:DocS b w S A n c l k 0) (her:er=1∨er=8)
  (KN:NeeC b S A n c l 4 ⟨#[40]⟩ k 0 i 0) (KP:PadC b S A n c l i x j er) (KR:FaiC b S A n c l j er i 0 j er):
  Calls Tryz.prog 67 #[.pointer (some ⟨b,0,none⟩)] w fun e w'=>e= .returned (.agg #[.int .i64 0,.int .i64 0,.string ⟨#[]⟩,.string ⟨#[]⟩,.slice none 0 0])∧StepD b w S A n c l j er w':=by
 have H:=Lib.hid (Cy.start h);obtain⟨b1,b2,b3,b4⟩:=neq0_f (a:=er) (by omega);obtain⟨x1,x2,x4,_⟩:=H.out.rd.four0;have hlt:=H.out.lt;have kb:k≤4000:=by have:=h.few;have:=h.le;omega
 clear h her;go_enter Tryz.func67,Tryz.ntmps67;go_wp2_with (first | (go_at_call 93;go_must (((with_reducible refine(KN.out _ (H.out.rd.box _)).mono ?_));rintro e w1 ⟨rfl,hs1⟩;have HC:=Lib.hid ((H.out.alloc 44 zeroXs (by simp)).call hs1);obtain⟨d1,d2,d4,e2⟩:=HC.out.rd.four0;obtain⟨q0,q1,q2⟩:=HC.out.one;clear hs1)));clear e2 d4 x1 x2 x4;obtain⟨d1,d2,_,_⟩:=HC.out.drew.rd.four0;obtain⟨a1,a2,_,_⟩:=(HC.out.alloc 44 zeroXs (by simp)).drew.rd.four0;have m1:=d1;have m2:=d2;have n1:=d1;have n2:=d2;have s1:=d1;have s2:=d2
 go_region_held3 (fun W'=>W'.cell? ⟨b,1,none⟩=some (.slice A n c)∧W'.cell? ⟨b,2,none⟩=some (.int .i64 i))
  (first | (with_reducible exact⟨d1,d2⟩) | (with_reducible exact⟨a1,a2⟩) | (with_reducible exact⟨m1,m2⟩) | (with_reducible exact⟨n1,n2⟩) | (with_reducible exact⟨s1,s2⟩))
  (first
   | (go_at_call 94;((with_reducible refine(KP.out _ HC.out.drew.rd).mono ?_));rintro e w2 ⟨A2,c2,rfl,hb2,hk2⟩;have HK2:=Lib.hid (HC.out.drew.below hb2);have HG:=Lib.hid (HK2.out.alloc 44 (cellsX x A2 c2) (by simp));have HXK:=Lib.hid (hk2.to (lo':=w.heap.size+1) (hi':=w2.heap.size) (by exact q2) (Nat.le_refl _));obtain⟨m1,m2,_⟩:=HK2.out.rd.four0;have HD0:=Lib.hid (HK2.out.alloc 44 zeroXs (by simp));obtain⟨n1,n2,_⟩:=HD0.out.rd.four0;obtain⟨s1,s2,_⟩:=HG.out.rd.four0)
   | (go_at_call 94;((with_reducible refine(KP.out _ (HC.out.alloc 44 zeroXs (by simp)).drew.rd).mono ?_));rintro e w2 ⟨A2,c2,rfl,hb2,hk2⟩;have HK2:=Lib.hid ((HC.out.alloc 44 zeroXs (by simp)).drew.below hb2);have HG:=Lib.hid (HK2.out.put5 0 _ _ _ _ _ _ rfl (.int .i64 x.kind) (.int .i64 x.n) (.string ⟨x.name.toArray⟩) (.string ⟨x.op.toArray⟩) (.slice A2 x.kids.length c2));have HXK:=Lib.hid (hk2.to (lo':=w.heap.size+1) (hi':=w2.heap.size) (by simp;omega) (Nat.le_refl _));have HXK2:=Lib.hid ((hk2.put5 (c:=w1.heap.size) (fun hp=>by have h9:w1.heap.size+1≤w1.heap.size:=(by simpa using hp.1);omega) (.int .i64 x.kind) (.int .i64 x.n) (.string ⟨x.name.toArray⟩) (.string ⟨x.op.toArray⟩) (.slice A2 x.kids.length c2)).to (lo':=w.heap.size+1) (hi':=w2.heap.size) (by simp;omega) (Nat.le_refl _));obtain⟨m1,m2,_⟩:=HK2.out.rd.four0;obtain⟨s1,s2,_⟩:=HG.out.rd.four0;obtain⟨p0,p1,p2,p3,p4⟩:=(HK2.out.box 0 _ zeroXs rfl).all5;obtain⟨o0,o1,o2,o3,o4⟩:=(HK2.out.box 0 _ zeroXs rfl).fre5))
 ·obtain⟨W,HW,HKX,hW⟩:∃ W,Hid (Cy b w W S A n c l i 0 [(w2.heap.size,cellsX x A2 c2),(w.heap.size,zeroXs)])∧Hid (KidsX (FrX (w.heap.size+1) w2.heap.size) W A2 x∧w2.heap.size≤W.heap.size)∧W=w2.alloc (.cells #[.int .i64 x.kind,.int .i64 x.n,.string ⟨x.name.toArray⟩,.string ⟨x.op.toArray⟩,.slice A2 x.kids.length c2] 44):=⟨_,HG,Lib.hid ⟨HXK.out.allocX (fun k hk=>hk.2) _,by simp⟩,rfl⟩
  rw[←hW];clear hW HG HXK HD0 HK2 m1 m2 n1 n2 s1 s2 d1 d2 a1 a2 q0 q1 q2;obtain⟨d1,d4⟩:=HW.out.rd.c14;obtain⟨q0,q1,q2,q3⟩:=HW.out.two;obtain⟨g0,g1,g2,g3,g4⟩:=(HW.out.box 1 w.heap.size zeroXs rfl).all5;obtain⟨j0,j1,j2,j3,j4⟩:=(HW.out.box 1 w.heap.size zeroXs rfl).fre5;obtain⟨y0,y1,y2,y3,y4⟩:=(HW.out.box 0 _ (cellsX x A2 c2) rfl).all5;have d2:=HW.out.rd.at0;have f2:=HW.out.rd.f2;go_wp2_with (first | (go_at_call 25;go_must (((with_reducible refine(KR.out _ HW.out.rd).mono ?_));rintro e w4 ⟨rfl,hs4⟩;have HR:=Lib.hid (HW.out.call hs4);clear hs4;obtain⟨d1,d4⟩:=HR.out.rd.c14;obtain⟨q0,q1,q2,q3⟩:=HR.out.two;obtain⟨g0,g1,g2,g3,g4⟩:=(HR.out.box 1 w.heap.size zeroXs rfl).all5;obtain⟨j0,j1,j2,j3,j4⟩:=(HR.out.box 1 w.heap.size zeroXs rfl).fre5;obtain⟨y0,y1,y2,y3,y4⟩:=(HR.out.box 0 _ (cellsX x A2 c2) rfl).all5)));have HE:=HR.out.put5 1 w.heap.size _ _ _ _ _ rfl (.int .i64 0) (.int .i64 0) (.string ⟨#[]⟩) (.string ⟨#[]⟩) (.slice none 0 0);obtain⟨r0,r1,r2,r3,r4⟩:=(HE.box 1 w.heap.size _ rfl).all5;exact bodyPost_ret (v:= .agg #[.int .i64 0,.int .i64 0,.string ⟨#[]⟩,.string ⟨#[]⟩,.slice none 0 0]) (by simp[results,Tryz.results67,go_sem,r0,r1,r2,r3,r4]) rfl ⟨rfl,HE.step⟩
 ·obtain⟨W,HW,HKX,hW⟩:∃ W,Hid (Cy b w W S A n c l i 0 [(w1.heap.size,cellsX x A2 c2),(w.heap.size,zeroXs)])∧Hid (KidsX (FrX (w.heap.size+1) w2.heap.size) W A2 x∧w2.heap.size≤W.heap.size)∧W=((((w2.setCell ⟨w1.heap.size,0,none⟩ (.int .i64 x.kind)).setCell ⟨w1.heap.size,1,none⟩ (.int .i64 x.n)).setCell ⟨w1.heap.size,2,none⟩ (.string ⟨x.name.toArray⟩)).setCell ⟨w1.heap.size,3,none⟩ (.string ⟨x.op.toArray⟩)).setCell ⟨w1.heap.size,4,none⟩ (.slice A2 x.kids.length c2):=⟨_,HG,Lib.hid ⟨HXK2.out,by simp[World.setCell]⟩,rfl⟩
  rw[←hW];clear hW HG HXK HXK2 p0 p1 p2 p3 p4 o0 o1 o2 o3 o4 HK2 m1 m2 n1 n2 s1 s2 d1 d2 a1 a2 q0 q1 q2;obtain⟨d1,d4⟩:=HW.out.rd.c14;obtain⟨q0,q1,q2,q3⟩:=HW.out.two;obtain⟨g0,g1,g2,g3,g4⟩:=(HW.out.box 1 w.heap.size zeroXs rfl).all5;obtain⟨j0,j1,j2,j3,j4⟩:=(HW.out.box 1 w.heap.size zeroXs rfl).fre5;obtain⟨y0,y1,y2,y3,y4⟩:=(HW.out.box 0 _ (cellsX x A2 c2) rfl).all5;have d2:=HW.out.rd.at0;have f2:=HW.out.rd.f2;go_wp2_with (first | (go_at_call 25;go_must (((with_reducible refine(KR.out _ HW.out.rd).mono ?_));rintro e w4 ⟨rfl,hs4⟩;have HR:=Lib.hid (HW.out.call hs4);clear hs4;obtain⟨d1,d4⟩:=HR.out.rd.c14;obtain⟨q0,q1,q2,q3⟩:=HR.out.two;obtain⟨g0,g1,g2,g3,g4⟩:=(HR.out.box 1 w.heap.size zeroXs rfl).all5;obtain⟨j0,j1,j2,j3,j4⟩:=(HR.out.box 1 w.heap.size zeroXs rfl).fre5;obtain⟨y0,y1,y2,y3,y4⟩:=(HR.out.box 0 _ (cellsX x A2 c2) rfl).all5)));have HE:=HR.out.put5 1 w.heap.size _ _ _ _ _ rfl (.int .i64 0) (.int .i64 0) (.string ⟨#[]⟩) (.string ⟨#[]⟩) (.slice none 0 0);obtain⟨r0,r1,r2,r3,r4⟩:=(HE.box 1 w.heap.size _ rfl).all5;exact bodyPost_ret (v:= .agg #[.int .i64 0,.int .i64 0,.string ⟨#[]⟩,.string ⟨#[]⟩,.slice none 0 0]) (by simp[results,Tryz.results67,go_sem,r0,r1,r2,r3,r4]) rfl ⟨rfl,HE.step⟩
theorem dcond_open (b:Nat) (w:World) (S:ByteArray) (A:Option Addr) (n c:Nat) (l:List Tok) (k i:Nat) (x:Ex) (j:Nat) (h:DocS b w S A n c l k 0) (hj:j≤n)
  (KN:NeeC b S A n c l 4 ⟨#[40]⟩ k 0 i 0) (KP:PadC b S A n c l i x j 0) (KM:NeeC b S A n c l 4 ⟨#[41]⟩ j 0 j 1):
  Calls Tryz.prog 67 #[.pointer (some ⟨b,0,none⟩)] w fun e w'=>∃ A2 c2,e= .returned (.agg #[.int .i64 x.kind,.int .i64 x.n,.string ⟨x.name.toArray⟩,.string ⟨x.op.toArray⟩,.slice A2 x.kids.length c2])∧StepD b w S A n c l j 1 w':=by
 have H:=Lib.hid (Cy.start h);obtain⟨x1,x2,x4,_⟩:=H.out.rd.four0;have hlt:=H.out.lt;have HJ:=Lib.hid hj;have kb:k≤4000:=by have:=h.few;have:=h.le;omega
 clear h hj;go_enter Tryz.func67,Tryz.ntmps67;go_wp2_with (first | (go_at_call 93;go_must (((with_reducible refine(KN.out _ (H.out.rd.box _)).mono ?_));rintro e w1 ⟨rfl,hs1⟩;have HC:=Lib.hid ((H.out.alloc 44 zeroXs (by simp)).call hs1);obtain⟨d1,d2,d4,e2⟩:=HC.out.rd.four0;obtain⟨q0,q1,q2⟩:=HC.out.one;clear hs1)));clear e2 d4 x1 x2 x4;obtain⟨d1,d2,_,_⟩:=HC.out.drew.rd.four0;obtain⟨a1,a2,_,_⟩:=(HC.out.alloc 44 zeroXs (by simp)).drew.rd.four0;have m1:=d1;have m2:=d2;have n1:=d1;have n2:=d2;have s1:=d1;have s2:=d2
 go_region_held3 (fun W'=>W'.cell? ⟨b,1,none⟩=some (.slice A n c)∧W'.cell? ⟨b,2,none⟩=some (.int .i64 i))
  (first | (with_reducible exact⟨d1,d2⟩) | (with_reducible exact⟨a1,a2⟩) | (with_reducible exact⟨m1,m2⟩) | (with_reducible exact⟨n1,n2⟩) | (with_reducible exact⟨s1,s2⟩))
  (first
   | (go_at_call 94;((with_reducible refine(KP.out _ HC.out.drew.rd).mono ?_));rintro e w2 ⟨A2,c2,rfl,hb2,hk2⟩;have HK2:=Lib.hid (HC.out.drew.below hb2);have HG:=Lib.hid (HK2.out.alloc 44 (cellsX x A2 c2) (by simp));have HXK:=Lib.hid (hk2.to (lo':=w.heap.size+1) (hi':=w2.heap.size) (by exact q2) (Nat.le_refl _));obtain⟨m1,m2,_⟩:=HK2.out.rd.four0;have HD0:=Lib.hid (HK2.out.alloc 44 zeroXs (by simp));obtain⟨n1,n2,_⟩:=HD0.out.rd.four0;obtain⟨s1,s2,_⟩:=HG.out.rd.four0)
   | (go_at_call 94;((with_reducible refine(KP.out _ (HC.out.alloc 44 zeroXs (by simp)).drew.rd).mono ?_));rintro e w2 ⟨A2,c2,rfl,hb2,hk2⟩;have HK2:=Lib.hid ((HC.out.alloc 44 zeroXs (by simp)).drew.below hb2);have HG:=Lib.hid (HK2.out.put5 0 _ _ _ _ _ _ rfl (.int .i64 x.kind) (.int .i64 x.n) (.string ⟨x.name.toArray⟩) (.string ⟨x.op.toArray⟩) (.slice A2 x.kids.length c2));have HXK:=Lib.hid (hk2.to (lo':=w.heap.size+1) (hi':=w2.heap.size) (by simp;omega) (Nat.le_refl _));have HXK2:=Lib.hid ((hk2.put5 (c:=w1.heap.size) (fun hp=>by have h9:w1.heap.size+1≤w1.heap.size:=(by simpa using hp.1);omega) (.int .i64 x.kind) (.int .i64 x.n) (.string ⟨x.name.toArray⟩) (.string ⟨x.op.toArray⟩) (.slice A2 x.kids.length c2)).to (lo':=w.heap.size+1) (hi':=w2.heap.size) (by simp;omega) (Nat.le_refl _));obtain⟨m1,m2,_⟩:=HK2.out.rd.four0;obtain⟨s1,s2,_⟩:=HG.out.rd.four0;obtain⟨p0,p1,p2,p3,p4⟩:=(HK2.out.box 0 _ zeroXs rfl).all5;obtain⟨o0,o1,o2,o3,o4⟩:=(HK2.out.box 0 _ zeroXs rfl).fre5))
 ·obtain⟨W,HW,HKX,hW⟩:∃ W,Hid (Cy b w W S A n c l i 0 [(w2.heap.size,cellsX x A2 c2),(w.heap.size,zeroXs)])∧Hid (KidsX (FrX (w.heap.size+1) w2.heap.size) W A2 x∧w2.heap.size≤W.heap.size)∧W=w2.alloc (.cells #[.int .i64 x.kind,.int .i64 x.n,.string ⟨x.name.toArray⟩,.string ⟨x.op.toArray⟩,.slice A2 x.kids.length c2] 44):=⟨_,HG,Lib.hid ⟨HXK.out.allocX (fun k hk=>hk.2) _,by simp⟩,rfl⟩
  rw[←hW];clear hW HG HXK HD0 HK2 m1 m2 n1 n2 s1 s2 d1 d2 a1 a2 q0 q1 q2;obtain⟨d1,d4⟩:=HW.out.rd.c14;obtain⟨q0,q1,q2,q3⟩:=HW.out.two;obtain⟨g0,g1,g2,g3,g4⟩:=(HW.out.box 1 w.heap.size zeroXs rfl).all5;obtain⟨j0,j1,j2,j3,j4⟩:=(HW.out.box 1 w.heap.size zeroXs rfl).fre5;obtain⟨y0,y1,y2,y3,y4⟩:=(HW.out.box 0 _ (cellsX x A2 c2) rfl).all5;have d2:=HW.out.rd.at0;have f2:=HW.out.rd.f2;go_wp2_with (first | (go_at_call 93;go_must (((with_reducible refine(KM.out _ (HW.out.place j j rfl HJ.out).rd).mono ?_));rintro e w5 ⟨rfl,hs5⟩;have HS:=Lib.hid ((HW.out.place j j rfl HJ.out).call hs5);clear hs5;obtain⟨d1,d4⟩:=HS.out.rd.c14;obtain⟨q0,q1,q2,q3⟩:=HS.out.two;obtain⟨g0,g1,g2,g3,g4⟩:=(HS.out.box 1 w.heap.size zeroXs rfl).all5;obtain⟨j0,j1,j2,j3,j4⟩:=(HS.out.box 1 w.heap.size zeroXs rfl).fre5;obtain⟨y0,y1,y2,y3,y4⟩:=(HS.out.box 0 _ (cellsX x A2 c2) rfl).all5)));have HE:=HS.out.put5 1 w.heap.size _ _ _ _ _ rfl (.int .i64 x.kind) (.int .i64 x.n) (.string ⟨x.name.toArray⟩) (.string ⟨x.op.toArray⟩) (.slice A2 x.kids.length c2);obtain⟨r0,r1,r2,r3,r4⟩:=(HE.box 1 w.heap.size _ rfl).all5;exact bodyPost_ret (v:= .agg #[.int .i64 x.kind,.int .i64 x.n,.string ⟨x.name.toArray⟩,.string ⟨x.op.toArray⟩,.slice A2 x.kids.length c2]) (by simp[results,Tryz.results67,go_sem,r0,r1,r2,r3,r4]) rfl ⟨A2,c2,rfl,HE.step⟩
 ·obtain⟨W,HW,HKX,hW⟩:∃ W,Hid (Cy b w W S A n c l i 0 [(w1.heap.size,cellsX x A2 c2),(w.heap.size,zeroXs)])∧Hid (KidsX (FrX (w.heap.size+1) w2.heap.size) W A2 x∧w2.heap.size≤W.heap.size)∧W=((((w2.setCell ⟨w1.heap.size,0,none⟩ (.int .i64 x.kind)).setCell ⟨w1.heap.size,1,none⟩ (.int .i64 x.n)).setCell ⟨w1.heap.size,2,none⟩ (.string ⟨x.name.toArray⟩)).setCell ⟨w1.heap.size,3,none⟩ (.string ⟨x.op.toArray⟩)).setCell ⟨w1.heap.size,4,none⟩ (.slice A2 x.kids.length c2):=⟨_,HG,Lib.hid ⟨HXK2.out,by simp[World.setCell]⟩,rfl⟩
  rw[←hW];clear hW HG HXK HXK2 p0 p1 p2 p3 p4 o0 o1 o2 o3 o4 HK2 m1 m2 n1 n2 s1 s2 d1 d2 a1 a2 q0 q1 q2;obtain⟨d1,d4⟩:=HW.out.rd.c14;obtain⟨q0,q1,q2,q3⟩:=HW.out.two;obtain⟨g0,g1,g2,g3,g4⟩:=(HW.out.box 1 w.heap.size zeroXs rfl).all5;obtain⟨j0,j1,j2,j3,j4⟩:=(HW.out.box 1 w.heap.size zeroXs rfl).fre5;obtain⟨y0,y1,y2,y3,y4⟩:=(HW.out.box 0 _ (cellsX x A2 c2) rfl).all5;have d2:=HW.out.rd.at0;have f2:=HW.out.rd.f2;go_wp2_with (first | (go_at_call 93;go_must (((with_reducible refine(KM.out _ (HW.out.place j j rfl HJ.out).rd).mono ?_));rintro e w5 ⟨rfl,hs5⟩;have HS:=Lib.hid ((HW.out.place j j rfl HJ.out).call hs5);clear hs5;obtain⟨d1,d4⟩:=HS.out.rd.c14;obtain⟨q0,q1,q2,q3⟩:=HS.out.two;obtain⟨g0,g1,g2,g3,g4⟩:=(HS.out.box 1 w.heap.size zeroXs rfl).all5;obtain⟨j0,j1,j2,j3,j4⟩:=(HS.out.box 1 w.heap.size zeroXs rfl).fre5;obtain⟨y0,y1,y2,y3,y4⟩:=(HS.out.box 0 _ (cellsX x A2 c2) rfl).all5)));have HE:=HS.out.put5 1 w.heap.size _ _ _ _ _ rfl (.int .i64 x.kind) (.int .i64 x.n) (.string ⟨x.name.toArray⟩) (.string ⟨x.op.toArray⟩) (.slice A2 x.kids.length c2);obtain⟨r0,r1,r2,r3,r4⟩:=(HE.box 1 w.heap.size _ rfl).all5;exact bodyPost_ret (v:= .agg #[.int .i64 x.kind,.int .i64 x.n,.string ⟨x.name.toArray⟩,.string ⟨x.op.toArray⟩,.slice A2 x.kids.length c2]) (by simp[results,Tryz.results67,go_sem,r0,r1,r2,r3,r4]) rfl ⟨A2,c2,rfl,HE.step⟩
theorem dcond_ok (b:Nat) (w:World) (S:ByteArray) (A:Option Addr) (n c:Nat) (l:List Tok) (k i:Nat) (x:Ex) (j:Nat) (h:DocS b w S A n c l k 0) (hj:j≤n)
  (KN:NeeC b S A n c l 4 ⟨#[40]⟩ k 0 i 0) (KP:PadC b S A n c l i x j 0) (KM:NeeC b S A n c l 4 ⟨#[41]⟩ j 0 (j+1) 0)
  (KY:Hid (∀ w' A2 c2,KidsX (FrX w.heap.size w'.heap.size) w' A2 x→Calls Tryz.prog 71 #[.agg #[.int .i64 x.kind,.int .i64 x.n,.string ⟨x.name.toArray⟩,.string ⟨x.op.toArray⟩,.slice A2 x.kids.length c2],.int .i64 0] w' fun e w2=>e= .returned (.bool true)∧Below w'.heap.size w' w2)):
  Calls Tryz.prog 67 #[.pointer (some ⟨b,0,none⟩)] w fun e w'=>∃ A2 c2,e= .returned (.agg #[.int .i64 x.kind,.int .i64 x.n,.string ⟨x.name.toArray⟩,.string ⟨x.op.toArray⟩,.slice A2 x.kids.length c2])∧StepD b w S A n c l (j+1) 0 w'∧KidsX (FrX w.heap.size w'.heap.size) w' A2 x:=by
 have H:=Lib.hid (Cy.start h);obtain⟨x1,x2,x4,_⟩:=H.out.rd.four0;have hlt:=H.out.lt;have HJ:=Lib.hid hj;have kb:k≤4000:=by have:=h.few;have:=h.le;omega
 clear h hj;go_enter Tryz.func67,Tryz.ntmps67;go_wp2_with (first | (go_at_call 93;go_must (((with_reducible refine(KN.out _ (H.out.rd.box _)).mono ?_));rintro e w1 ⟨rfl,hs1⟩;have HC:=Lib.hid ((H.out.alloc 44 zeroXs (by simp)).call hs1);obtain⟨d1,d2,d4,e2⟩:=HC.out.rd.four0;obtain⟨q0,q1,q2⟩:=HC.out.one;clear hs1)));clear e2 d4 x1 x2 x4;obtain⟨d1,d2,_,_⟩:=HC.out.drew.rd.four0;obtain⟨a1,a2,_,_⟩:=(HC.out.alloc 44 zeroXs (by simp)).drew.rd.four0;have m1:=d1;have m2:=d2;have n1:=d1;have n2:=d2;have s1:=d1;have s2:=d2
 go_region_held3 (fun W'=>W'.cell? ⟨b,1,none⟩=some (.slice A n c)∧W'.cell? ⟨b,2,none⟩=some (.int .i64 i))
  (first | (with_reducible exact⟨d1,d2⟩) | (with_reducible exact⟨a1,a2⟩) | (with_reducible exact⟨m1,m2⟩) | (with_reducible exact⟨n1,n2⟩) | (with_reducible exact⟨s1,s2⟩))
  (first
   | (go_at_call 94;((with_reducible refine(KP.out _ HC.out.drew.rd).mono ?_));rintro e w2 ⟨A2,c2,rfl,hb2,hk2⟩;have HK2:=Lib.hid (HC.out.drew.below hb2);have HG:=Lib.hid (HK2.out.alloc 44 (cellsX x A2 c2) (by simp));have HXK:=Lib.hid (hk2.to (lo':=w.heap.size+1) (hi':=w2.heap.size) (by exact q2) (Nat.le_refl _));obtain⟨m1,m2,_⟩:=HK2.out.rd.four0;have HD0:=Lib.hid (HK2.out.alloc 44 zeroXs (by simp));obtain⟨n1,n2,_⟩:=HD0.out.rd.four0;obtain⟨s1,s2,_⟩:=HG.out.rd.four0)
   | (go_at_call 94;((with_reducible refine(KP.out _ (HC.out.alloc 44 zeroXs (by simp)).drew.rd).mono ?_));rintro e w2 ⟨A2,c2,rfl,hb2,hk2⟩;have HK2:=Lib.hid ((HC.out.alloc 44 zeroXs (by simp)).drew.below hb2);have HG:=Lib.hid (HK2.out.put5 0 _ _ _ _ _ _ rfl (.int .i64 x.kind) (.int .i64 x.n) (.string ⟨x.name.toArray⟩) (.string ⟨x.op.toArray⟩) (.slice A2 x.kids.length c2));have HXK:=Lib.hid (hk2.to (lo':=w.heap.size+1) (hi':=w2.heap.size) (by simp;omega) (Nat.le_refl _));have HXK2:=Lib.hid ((hk2.put5 (c:=w1.heap.size) (fun hp=>by have h9:w1.heap.size+1≤w1.heap.size:=(by simpa using hp.1);omega) (.int .i64 x.kind) (.int .i64 x.n) (.string ⟨x.name.toArray⟩) (.string ⟨x.op.toArray⟩) (.slice A2 x.kids.length c2)).to (lo':=w.heap.size+1) (hi':=w2.heap.size) (by simp;omega) (Nat.le_refl _));obtain⟨m1,m2,_⟩:=HK2.out.rd.four0;obtain⟨s1,s2,_⟩:=HG.out.rd.four0;obtain⟨p0,p1,p2,p3,p4⟩:=(HK2.out.box 0 _ zeroXs rfl).all5;obtain⟨o0,o1,o2,o3,o4⟩:=(HK2.out.box 0 _ zeroXs rfl).fre5))
 ·obtain⟨W,HW,HKX,hW⟩:∃ W,Hid (Cy b w W S A n c l i 0 [(w2.heap.size,cellsX x A2 c2),(w.heap.size,zeroXs)])∧Hid (KidsX (FrX (w.heap.size+1) w2.heap.size) W A2 x∧w2.heap.size≤W.heap.size)∧W=w2.alloc (.cells #[.int .i64 x.kind,.int .i64 x.n,.string ⟨x.name.toArray⟩,.string ⟨x.op.toArray⟩,.slice A2 x.kids.length c2] 44):=⟨_,HG,Lib.hid ⟨HXK.out.allocX (fun k hk=>hk.2) _,by simp⟩,rfl⟩
  rw[←hW];clear hW HG HXK HD0 HK2 m1 m2 n1 n2 s1 s2 d1 d2 a1 a2 q0 q1 q2;obtain⟨d1,d4⟩:=HW.out.rd.c14;obtain⟨q0,q1,q2,q3⟩:=HW.out.two;obtain⟨g0,g1,g2,g3,g4⟩:=(HW.out.box 1 w.heap.size zeroXs rfl).all5;obtain⟨j0,j1,j2,j3,j4⟩:=(HW.out.box 1 w.heap.size zeroXs rfl).fre5;obtain⟨y0,y1,y2,y3,y4⟩:=(HW.out.box 0 _ (cellsX x A2 c2) rfl).all5;have d2:=HW.out.rd.at0;have f2:=HW.out.rd.f2;go_wp2_with (first | (go_at_call 93;go_must (((with_reducible refine(KM.out _ (HW.out.place j j rfl HJ.out).rd).mono ?_));rintro e w5 ⟨rfl,hs5⟩;have HS:=Lib.hid ((HW.out.place j j rfl HJ.out).call hs5);have HKS:=Lib.hid (((HKX.out.1.over (fun q hq=>Below.heap_setCell _ _ _ _ (by have:=hq.1;have:=HW.out.lt;show q≠b;omega))).grownX hs5.1 (fun q hq=>⟨Nat.lt_of_lt_of_le hq.2 (by have:=HKX.out.2;simpa[World.setCell] using this),by have:=hq.1;have:=HW.out.lt;omega⟩)).to (hi':=w5.heap.size) (Nat.le_refl _) (by have h1:=HKX.out.2;have h2:=hs5.1.size;simp[World.setCell] at h2;omega));clear hs5;obtain⟨d1,d4⟩:=HS.out.rd.c14;obtain⟨q0,q1,q2,q3⟩:=HS.out.two;obtain⟨g0,g1,g2,g3,g4⟩:=(HS.out.box 1 w.heap.size zeroXs rfl).all5;obtain⟨j0,j1,j2,j3,j4⟩:=(HS.out.box 1 w.heap.size zeroXs rfl).fre5;obtain⟨y0,y1,y2,y3,y4⟩:=(HS.out.box 0 _ (cellsX x A2 c2) rfl).all5)) | (go_at_call 71;go_must (((with_reducible refine(KY.out _ _ _ (HKS.out.to (Nat.le_succ _) (Nat.le_refl _))).mono ?_));rintro e w6 ⟨rfl,hb6⟩;have HY:=Lib.hid (HS.out.below hb6);have HKY:=Lib.hid (And.intro (HKS.out.over (fun q hq=>hb6.block q hq.2)) hb6.size);clear hb6;obtain⟨d1,d4⟩:=HY.out.rd.c14;obtain⟨q0,q1,q2,q3⟩:=HY.out.two;obtain⟨g0,g1,g2,g3,g4⟩:=(HY.out.box 1 w.heap.size zeroXs rfl).all5;obtain⟨j0,j1,j2,j3,j4⟩:=(HY.out.box 1 w.heap.size zeroXs rfl).fre5;obtain⟨y0,y1,y2,y3,y4⟩:=(HY.out.box 0 _ (cellsX x A2 c2) rfl).all5)));have HE:=HY.out.put5 1 w.heap.size _ _ _ _ _ rfl (.int .i64 x.kind) (.int .i64 x.n) (.string ⟨x.name.toArray⟩) (.string ⟨x.op.toArray⟩) (.slice A2 x.kids.length c2);obtain⟨r0,r1,r2,r3,r4⟩:=(HE.box 1 w.heap.size _ rfl).all5;exact bodyPost_ret (v:= .agg #[.int .i64 x.kind,.int .i64 x.n,.string ⟨x.name.toArray⟩,.string ⟨x.op.toArray⟩,.slice A2 x.kids.length c2]) (by simp[results,Tryz.results67,go_sem,r0,r1,r2,r3,r4]) rfl ⟨A2,c2,rfl,HE.step,HKY.out.1.putQ HKY.out.2 _ _ _ _ _⟩
 ·obtain⟨W,HW,HKX,hW⟩:∃ W,Hid (Cy b w W S A n c l i 0 [(w1.heap.size,cellsX x A2 c2),(w.heap.size,zeroXs)])∧Hid (KidsX (FrX (w.heap.size+1) w2.heap.size) W A2 x∧w2.heap.size≤W.heap.size)∧W=((((w2.setCell ⟨w1.heap.size,0,none⟩ (.int .i64 x.kind)).setCell ⟨w1.heap.size,1,none⟩ (.int .i64 x.n)).setCell ⟨w1.heap.size,2,none⟩ (.string ⟨x.name.toArray⟩)).setCell ⟨w1.heap.size,3,none⟩ (.string ⟨x.op.toArray⟩)).setCell ⟨w1.heap.size,4,none⟩ (.slice A2 x.kids.length c2):=⟨_,HG,Lib.hid ⟨HXK2.out,by simp[World.setCell]⟩,rfl⟩
  rw[←hW];clear hW HG HXK HXK2 p0 p1 p2 p3 p4 o0 o1 o2 o3 o4 HK2 m1 m2 n1 n2 s1 s2 d1 d2 a1 a2 q0 q1 q2;obtain⟨d1,d4⟩:=HW.out.rd.c14;obtain⟨q0,q1,q2,q3⟩:=HW.out.two;obtain⟨g0,g1,g2,g3,g4⟩:=(HW.out.box 1 w.heap.size zeroXs rfl).all5;obtain⟨j0,j1,j2,j3,j4⟩:=(HW.out.box 1 w.heap.size zeroXs rfl).fre5;obtain⟨y0,y1,y2,y3,y4⟩:=(HW.out.box 0 _ (cellsX x A2 c2) rfl).all5;have d2:=HW.out.rd.at0;have f2:=HW.out.rd.f2;go_wp2_with (first | (go_at_call 93;go_must (((with_reducible refine(KM.out _ (HW.out.place j j rfl HJ.out).rd).mono ?_));rintro e w5 ⟨rfl,hs5⟩;have HS:=Lib.hid ((HW.out.place j j rfl HJ.out).call hs5);have HKS:=Lib.hid (((HKX.out.1.over (fun q hq=>Below.heap_setCell _ _ _ _ (by have:=hq.1;have:=HW.out.lt;show q≠b;omega))).grownX hs5.1 (fun q hq=>⟨Nat.lt_of_lt_of_le hq.2 (by have:=HKX.out.2;simpa[World.setCell] using this),by have:=hq.1;have:=HW.out.lt;omega⟩)).to (hi':=w5.heap.size) (Nat.le_refl _) (by have h1:=HKX.out.2;have h2:=hs5.1.size;simp[World.setCell] at h2;omega));clear hs5;obtain⟨d1,d4⟩:=HS.out.rd.c14;obtain⟨q0,q1,q2,q3⟩:=HS.out.two;obtain⟨g0,g1,g2,g3,g4⟩:=(HS.out.box 1 w.heap.size zeroXs rfl).all5;obtain⟨j0,j1,j2,j3,j4⟩:=(HS.out.box 1 w.heap.size zeroXs rfl).fre5;obtain⟨y0,y1,y2,y3,y4⟩:=(HS.out.box 0 _ (cellsX x A2 c2) rfl).all5)) | (go_at_call 71;go_must (((with_reducible refine(KY.out _ _ _ (HKS.out.to (Nat.le_succ _) (Nat.le_refl _))).mono ?_));rintro e w6 ⟨rfl,hb6⟩;have HY:=Lib.hid (HS.out.below hb6);have HKY:=Lib.hid (And.intro (HKS.out.over (fun q hq=>hb6.block q hq.2)) hb6.size);clear hb6;obtain⟨d1,d4⟩:=HY.out.rd.c14;obtain⟨q0,q1,q2,q3⟩:=HY.out.two;obtain⟨g0,g1,g2,g3,g4⟩:=(HY.out.box 1 w.heap.size zeroXs rfl).all5;obtain⟨j0,j1,j2,j3,j4⟩:=(HY.out.box 1 w.heap.size zeroXs rfl).fre5;obtain⟨y0,y1,y2,y3,y4⟩:=(HY.out.box 0 _ (cellsX x A2 c2) rfl).all5)));have HE:=HY.out.put5 1 w.heap.size _ _ _ _ _ rfl (.int .i64 x.kind) (.int .i64 x.n) (.string ⟨x.name.toArray⟩) (.string ⟨x.op.toArray⟩) (.slice A2 x.kids.length c2);obtain⟨r0,r1,r2,r3,r4⟩:=(HE.box 1 w.heap.size _ rfl).all5;exact bodyPost_ret (v:= .agg #[.int .i64 x.kind,.int .i64 x.n,.string ⟨x.name.toArray⟩,.string ⟨x.op.toArray⟩,.slice A2 x.kids.length c2]) (by simp[results,Tryz.results67,go_sem,r0,r1,r2,r3,r4]) rfl ⟨A2,c2,rfl,HE.step,HKY.out.1.putQ HKY.out.2 _ _ _ _ _⟩
theorem dcond_deep (b:Nat) (w:World) (S:ByteArray) (A:Option Addr) (n c:Nat) (l:List Tok) (k i:Nat) (x:Ex) (j:Nat) (h:DocS b w S A n c l k 0) (hj:j≤n)
  (KN:NeeC b S A n c l 4 ⟨#[40]⟩ k 0 i 0) (KP:PadC b S A n c l i x j 0) (KM:NeeC b S A n c l 4 ⟨#[41]⟩ j 0 (j+1) 0)
  (KY:Hid (∀ w' A2 c2,KidsX (FrX w.heap.size w'.heap.size) w' A2 x→Calls Tryz.prog 71 #[.agg #[.int .i64 x.kind,.int .i64 x.n,.string ⟨x.name.toArray⟩,.string ⟨x.op.toArray⟩,.slice A2 x.kids.length c2],.int .i64 0] w' fun e w2=>e= .returned (.bool false)∧Below w'.heap.size w' w2)) (KR:FaiC b S A n c l k 8 (j+1) 0 k 8):
  Calls Tryz.prog 67 #[.pointer (some ⟨b,0,none⟩)] w fun e w'=>∃ A2 c2,e= .returned (.agg #[.int .i64 x.kind,.int .i64 x.n,.string ⟨x.name.toArray⟩,.string ⟨x.op.toArray⟩,.slice A2 x.kids.length c2])∧StepD b w S A n c l k 8 w':=by
 have H:=Lib.hid (Cy.start h);obtain⟨x1,x2,x4,_⟩:=H.out.rd.four0;have hlt:=H.out.lt;have HJ:=Lib.hid hj;have kb:k≤4000:=by have:=h.few;have:=h.le;omega
 clear h hj;go_enter Tryz.func67,Tryz.ntmps67;go_wp2_with (first | (go_at_call 93;go_must (((with_reducible refine(KN.out _ (H.out.rd.box _)).mono ?_));rintro e w1 ⟨rfl,hs1⟩;have HC:=Lib.hid ((H.out.alloc 44 zeroXs (by simp)).call hs1);obtain⟨d1,d2,d4,e2⟩:=HC.out.rd.four0;obtain⟨q0,q1,q2⟩:=HC.out.one;clear hs1)));clear e2 d4 x1 x2 x4;obtain⟨d1,d2,_,_⟩:=HC.out.drew.rd.four0;obtain⟨a1,a2,_,_⟩:=(HC.out.alloc 44 zeroXs (by simp)).drew.rd.four0;have m1:=d1;have m2:=d2;have n1:=d1;have n2:=d2;have s1:=d1;have s2:=d2
 go_region_held3 (fun W'=>W'.cell? ⟨b,1,none⟩=some (.slice A n c)∧W'.cell? ⟨b,2,none⟩=some (.int .i64 i))
  (first | (with_reducible exact⟨d1,d2⟩) | (with_reducible exact⟨a1,a2⟩) | (with_reducible exact⟨m1,m2⟩) | (with_reducible exact⟨n1,n2⟩) | (with_reducible exact⟨s1,s2⟩))
  (first
   | (go_at_call 94;((with_reducible refine(KP.out _ HC.out.drew.rd).mono ?_));rintro e w2 ⟨A2,c2,rfl,hb2,hk2⟩;have HK2:=Lib.hid (HC.out.drew.below hb2);have HG:=Lib.hid (HK2.out.alloc 44 (cellsX x A2 c2) (by simp));have HXK:=Lib.hid (hk2.to (lo':=w.heap.size+1) (hi':=w2.heap.size) (by exact q2) (Nat.le_refl _));obtain⟨m1,m2,_⟩:=HK2.out.rd.four0;have HD0:=Lib.hid (HK2.out.alloc 44 zeroXs (by simp));obtain⟨n1,n2,_⟩:=HD0.out.rd.four0;obtain⟨s1,s2,_⟩:=HG.out.rd.four0)
   | (go_at_call 94;((with_reducible refine(KP.out _ (HC.out.alloc 44 zeroXs (by simp)).drew.rd).mono ?_));rintro e w2 ⟨A2,c2,rfl,hb2,hk2⟩;have HK2:=Lib.hid ((HC.out.alloc 44 zeroXs (by simp)).drew.below hb2);have HG:=Lib.hid (HK2.out.put5 0 _ _ _ _ _ _ rfl (.int .i64 x.kind) (.int .i64 x.n) (.string ⟨x.name.toArray⟩) (.string ⟨x.op.toArray⟩) (.slice A2 x.kids.length c2));have HXK:=Lib.hid (hk2.to (lo':=w.heap.size+1) (hi':=w2.heap.size) (by simp;omega) (Nat.le_refl _));have HXK2:=Lib.hid ((hk2.put5 (c:=w1.heap.size) (fun hp=>by have h9:w1.heap.size+1≤w1.heap.size:=(by simpa using hp.1);omega) (.int .i64 x.kind) (.int .i64 x.n) (.string ⟨x.name.toArray⟩) (.string ⟨x.op.toArray⟩) (.slice A2 x.kids.length c2)).to (lo':=w.heap.size+1) (hi':=w2.heap.size) (by simp;omega) (Nat.le_refl _));obtain⟨m1,m2,_⟩:=HK2.out.rd.four0;obtain⟨s1,s2,_⟩:=HG.out.rd.four0;obtain⟨p0,p1,p2,p3,p4⟩:=(HK2.out.box 0 _ zeroXs rfl).all5;obtain⟨o0,o1,o2,o3,o4⟩:=(HK2.out.box 0 _ zeroXs rfl).fre5))
 ·obtain⟨W,HW,HKX,hW⟩:∃ W,Hid (Cy b w W S A n c l i 0 [(w2.heap.size,cellsX x A2 c2),(w.heap.size,zeroXs)])∧Hid (KidsX (FrX (w.heap.size+1) w2.heap.size) W A2 x∧w2.heap.size≤W.heap.size)∧W=w2.alloc (.cells #[.int .i64 x.kind,.int .i64 x.n,.string ⟨x.name.toArray⟩,.string ⟨x.op.toArray⟩,.slice A2 x.kids.length c2] 44):=⟨_,HG,Lib.hid ⟨HXK.out.allocX (fun k hk=>hk.2) _,by simp⟩,rfl⟩
  rw[←hW];clear hW HG HXK HD0 HK2 m1 m2 n1 n2 s1 s2 d1 d2 a1 a2 q0 q1 q2;obtain⟨d1,d4⟩:=HW.out.rd.c14;obtain⟨q0,q1,q2,q3⟩:=HW.out.two;obtain⟨g0,g1,g2,g3,g4⟩:=(HW.out.box 1 w.heap.size zeroXs rfl).all5;obtain⟨j0,j1,j2,j3,j4⟩:=(HW.out.box 1 w.heap.size zeroXs rfl).fre5;obtain⟨y0,y1,y2,y3,y4⟩:=(HW.out.box 0 _ (cellsX x A2 c2) rfl).all5;have d2:=HW.out.rd.at0;have f2:=HW.out.rd.f2;go_wp2_with (first | (go_at_call 93;go_must (((with_reducible refine(KM.out _ (HW.out.place j j rfl HJ.out).rd).mono ?_));rintro e w5 ⟨rfl,hs5⟩;have HS:=Lib.hid ((HW.out.place j j rfl HJ.out).call hs5);have HKS:=Lib.hid (((HKX.out.1.over (fun q hq=>Below.heap_setCell _ _ _ _ (by have:=hq.1;have:=HW.out.lt;show q≠b;omega))).grownX hs5.1 (fun q hq=>⟨Nat.lt_of_lt_of_le hq.2 (by have:=HKX.out.2;simpa[World.setCell] using this),by have:=hq.1;have:=HW.out.lt;omega⟩)).to (hi':=w5.heap.size) (Nat.le_refl _) (by have h1:=HKX.out.2;have h2:=hs5.1.size;simp[World.setCell] at h2;omega));clear hs5;obtain⟨d1,d4⟩:=HS.out.rd.c14;obtain⟨q0,q1,q2,q3⟩:=HS.out.two;obtain⟨g0,g1,g2,g3,g4⟩:=(HS.out.box 1 w.heap.size zeroXs rfl).all5;obtain⟨j0,j1,j2,j3,j4⟩:=(HS.out.box 1 w.heap.size zeroXs rfl).fre5;obtain⟨y0,y1,y2,y3,y4⟩:=(HS.out.box 0 _ (cellsX x A2 c2) rfl).all5)) | (go_at_call 71;go_must (((with_reducible refine(KY.out _ _ _ (HKS.out.to (Nat.le_succ _) (Nat.le_refl _))).mono ?_));rintro e w6 ⟨rfl,hb6⟩;have HY:=Lib.hid (HS.out.below hb6);have HKY:=Lib.hid (And.intro (HKS.out.over (fun q hq=>hb6.block q hq.2)) hb6.size);clear hb6;obtain⟨d1,d4⟩:=HY.out.rd.c14;obtain⟨q0,q1,q2,q3⟩:=HY.out.two;obtain⟨g0,g1,g2,g3,g4⟩:=(HY.out.box 1 w.heap.size zeroXs rfl).all5;obtain⟨j0,j1,j2,j3,j4⟩:=(HY.out.box 1 w.heap.size zeroXs rfl).fre5;obtain⟨y0,y1,y2,y3,y4⟩:=(HY.out.box 0 _ (cellsX x A2 c2) rfl).all5)) | (go_at_call 25;go_must (((with_reducible refine(KR.out _ HY.out.rd).mono ?_));rintro e w7 ⟨rfl,hs7⟩;have HZ:=Lib.hid (HY.out.call hs7);clear hs7;obtain⟨d1,d4⟩:=HZ.out.rd.c14;obtain⟨q0,q1,q2,q3⟩:=HZ.out.two;obtain⟨g0,g1,g2,g3,g4⟩:=(HZ.out.box 1 w.heap.size zeroXs rfl).all5;obtain⟨j0,j1,j2,j3,j4⟩:=(HZ.out.box 1 w.heap.size zeroXs rfl).fre5;obtain⟨y0,y1,y2,y3,y4⟩:=(HZ.out.box 0 _ (cellsX x A2 c2) rfl).all5)));have HE:=HZ.out.put5 1 w.heap.size _ _ _ _ _ rfl (.int .i64 x.kind) (.int .i64 x.n) (.string ⟨x.name.toArray⟩) (.string ⟨x.op.toArray⟩) (.slice A2 x.kids.length c2);obtain⟨r0,r1,r2,r3,r4⟩:=(HE.box 1 w.heap.size _ rfl).all5;exact bodyPost_ret (v:= .agg #[.int .i64 x.kind,.int .i64 x.n,.string ⟨x.name.toArray⟩,.string ⟨x.op.toArray⟩,.slice A2 x.kids.length c2]) (by simp[results,Tryz.results67,go_sem,r0,r1,r2,r3,r4]) rfl ⟨A2,c2,rfl,HE.step⟩
 ·obtain⟨W,HW,HKX,hW⟩:∃ W,Hid (Cy b w W S A n c l i 0 [(w1.heap.size,cellsX x A2 c2),(w.heap.size,zeroXs)])∧Hid (KidsX (FrX (w.heap.size+1) w2.heap.size) W A2 x∧w2.heap.size≤W.heap.size)∧W=((((w2.setCell ⟨w1.heap.size,0,none⟩ (.int .i64 x.kind)).setCell ⟨w1.heap.size,1,none⟩ (.int .i64 x.n)).setCell ⟨w1.heap.size,2,none⟩ (.string ⟨x.name.toArray⟩)).setCell ⟨w1.heap.size,3,none⟩ (.string ⟨x.op.toArray⟩)).setCell ⟨w1.heap.size,4,none⟩ (.slice A2 x.kids.length c2):=⟨_,HG,Lib.hid ⟨HXK2.out,by simp[World.setCell]⟩,rfl⟩
  rw[←hW];clear hW HG HXK HXK2 p0 p1 p2 p3 p4 o0 o1 o2 o3 o4 HK2 m1 m2 n1 n2 s1 s2 d1 d2 a1 a2 q0 q1 q2;obtain⟨d1,d4⟩:=HW.out.rd.c14;obtain⟨q0,q1,q2,q3⟩:=HW.out.two;obtain⟨g0,g1,g2,g3,g4⟩:=(HW.out.box 1 w.heap.size zeroXs rfl).all5;obtain⟨j0,j1,j2,j3,j4⟩:=(HW.out.box 1 w.heap.size zeroXs rfl).fre5;obtain⟨y0,y1,y2,y3,y4⟩:=(HW.out.box 0 _ (cellsX x A2 c2) rfl).all5;have d2:=HW.out.rd.at0;have f2:=HW.out.rd.f2;go_wp2_with (first | (go_at_call 93;go_must (((with_reducible refine(KM.out _ (HW.out.place j j rfl HJ.out).rd).mono ?_));rintro e w5 ⟨rfl,hs5⟩;have HS:=Lib.hid ((HW.out.place j j rfl HJ.out).call hs5);have HKS:=Lib.hid (((HKX.out.1.over (fun q hq=>Below.heap_setCell _ _ _ _ (by have:=hq.1;have:=HW.out.lt;show q≠b;omega))).grownX hs5.1 (fun q hq=>⟨Nat.lt_of_lt_of_le hq.2 (by have:=HKX.out.2;simpa[World.setCell] using this),by have:=hq.1;have:=HW.out.lt;omega⟩)).to (hi':=w5.heap.size) (Nat.le_refl _) (by have h1:=HKX.out.2;have h2:=hs5.1.size;simp[World.setCell] at h2;omega));clear hs5;obtain⟨d1,d4⟩:=HS.out.rd.c14;obtain⟨q0,q1,q2,q3⟩:=HS.out.two;obtain⟨g0,g1,g2,g3,g4⟩:=(HS.out.box 1 w.heap.size zeroXs rfl).all5;obtain⟨j0,j1,j2,j3,j4⟩:=(HS.out.box 1 w.heap.size zeroXs rfl).fre5;obtain⟨y0,y1,y2,y3,y4⟩:=(HS.out.box 0 _ (cellsX x A2 c2) rfl).all5)) | (go_at_call 71;go_must (((with_reducible refine(KY.out _ _ _ (HKS.out.to (Nat.le_succ _) (Nat.le_refl _))).mono ?_));rintro e w6 ⟨rfl,hb6⟩;have HY:=Lib.hid (HS.out.below hb6);have HKY:=Lib.hid (And.intro (HKS.out.over (fun q hq=>hb6.block q hq.2)) hb6.size);clear hb6;obtain⟨d1,d4⟩:=HY.out.rd.c14;obtain⟨q0,q1,q2,q3⟩:=HY.out.two;obtain⟨g0,g1,g2,g3,g4⟩:=(HY.out.box 1 w.heap.size zeroXs rfl).all5;obtain⟨j0,j1,j2,j3,j4⟩:=(HY.out.box 1 w.heap.size zeroXs rfl).fre5;obtain⟨y0,y1,y2,y3,y4⟩:=(HY.out.box 0 _ (cellsX x A2 c2) rfl).all5)) | (go_at_call 25;go_must (((with_reducible refine(KR.out _ HY.out.rd).mono ?_));rintro e w7 ⟨rfl,hs7⟩;have HZ:=Lib.hid (HY.out.call hs7);clear hs7;obtain⟨d1,d4⟩:=HZ.out.rd.c14;obtain⟨q0,q1,q2,q3⟩:=HZ.out.two;obtain⟨g0,g1,g2,g3,g4⟩:=(HZ.out.box 1 w.heap.size zeroXs rfl).all5;obtain⟨j0,j1,j2,j3,j4⟩:=(HZ.out.box 1 w.heap.size zeroXs rfl).fre5;obtain⟨y0,y1,y2,y3,y4⟩:=(HZ.out.box 0 _ (cellsX x A2 c2) rfl).all5)));have HE:=HZ.out.put5 1 w.heap.size _ _ _ _ _ rfl (.int .i64 x.kind) (.int .i64 x.n) (.string ⟨x.name.toArray⟩) (.string ⟨x.op.toArray⟩) (.slice A2 x.kids.length c2);obtain⟨r0,r1,r2,r3,r4⟩:=(HE.box 1 w.heap.size _ rfl).all5;exact bodyPost_ret (v:= .agg #[.int .i64 x.kind,.int .i64 x.n,.string ⟨x.name.toArray⟩,.string ⟨x.op.toArray⟩,.slice A2 x.kids.length c2]) (by simp[results,Tryz.results67,go_sem,r0,r1,r2,r3,r4]) rfl ⟨A2,c2,rfl,HE.step⟩
abbrev CoD (b:Nat) (S:ByteArray) (A:Option Addr) (n c:Nat) (l:List Tok) (k o:Nat) (R:Rz Ex):Prop:=Hid (∀ w',DocS b w' S A n c l k o→Calls Tryz.prog 67 #[.pointer (some ⟨b,0,none⟩)] w' fun e w2=>∃ (x:Ex) (A':Option Addr) (c':Nat),
 e= .returned (.agg #[.int .i64 x.kind,.int .i64 x.n,.string ⟨x.name.toArray⟩,.string ⟨x.op.toArray⟩,.slice A' x.kids.length c'])∧StepD b w' S A n c l R.at R.err w2∧∀ y j,R= .ok y j→y=x∧KidsX (FrX w'.heap.size w2.heap.size) w2 A' x)
theorem exR_smallD {b:Nat} {w:World} {S:ByteArray} {A:Option Addr} {n c:Nat} {l:List Tok} {k o:Nat} (h:DocS b w S A n c l k o) {i:Nat} (hi:i≤l.length) {x:Ex} {j:Nat} (e:exR l i= .ok x j):sizeX x≤1000000∧nmX x≤1000000∧i≤j∧j≤n:=by
 have hs:=exR_spec hi;rw[e] at hs;have h1:=RdE.small (fun t ht=>okT_short (h.fit.ok t ht)) (Nat.le_refl 1) hi hs;have h2:=hs.within (Nat.le_refl 1) hi;have:=h.few;have:=h.len;exact⟨by omega,by omega,h2.1,by have:=h2.2;omega⟩
theorem coD (b:Nat) (S:ByteArray) (A:Option Addr) (n c:Nat) (l:List Tok) (k o:Nat) {R:Rz Ex} (hR:gate o k (condF l)=R):CoD b S A n c l k o R:=Lib.hid fun w h=>by
 subst hR
 cases hi:isO l 4 [40] k o with
 | false=>
   have e1:(gate o k (condF l)).at=k∧(gate o k (condF l)).err=(if o=0 then 1 else o)∧∀ y j,gate o k (condF l)≠ .ok y j:=gate_none h.oks fun ho=>by
    subst ho;unfold condF needF;rw[if_neg (by rw[←isO_zero,hi];decide)];rfl
   have e2:=need_no h.oks hi;have ho:¬ (if o=0 then 1 else o)=0:=by split <;> omega
   rw[e1.1,e1.2.1];exact(dcond_no b w S A n c l k o _ h (neeC b S A n c l 4 (by decide) ⟨#[40]⟩ k o e2.1 e2.2.1) ho).mono fun e w' ⟨h1,h2⟩=>⟨exNone,none,0,h1,h2,fun y j hy=>absurd hy (e1.2.2 y j)⟩
 | true=>
   obtain⟨rfl,hi2⟩:=isO_lt (by decide) hi;have hkl:=isT_lt hi2 (by decide);have hlen:=h.len;have hk1:k+1≤l.length:=hkl;have e0:=need_yes hi;have KN:=neeC b S A n c l 4 (by decide) ⟨#[40]⟩ k 0 (congrArg Rz.at e0) (congrArg Rz.err e0)
   have e1:gate 0 k (condF l)=(exZ (exR l (k+1))).then fun x j=>(needF l 4 [41] j).then fun _ m=>if mayX x 0 then .ok x m else .bad k true:=by
    rw[gate_ok];unfold condF;have:needF l 4 [40] k= .ok () (k+1):=e0;rw[this];rfl
   rw[e1]
   cases hr:exR l (k+1) with
   | bad j er=>
     have hb:=exR_spec hk1;rw[hr] at hb;have hw:=hb.within (Nat.le_refl 1) hk1;have her:=hw.2.2;have KR:=faiC (z:=(er:Int)) b S A n c l j er (k+1) 0 (by omega) (by have:=hw.2.1;omega) rfl (k2:=j) (o2:=er) (if_pos rfl) (if_pos rfl);refine(dcond_bad b w S A n c l k (k+1) exNone j er h (by omega) KN (padC_bad hr) KR).mono fun e w' hs=>?_
     refine⟨exNone,none,0,hs.1,?_,fun y m hy=>by cases hy⟩;show StepD b w S A n c l j (if (er==8)=true then 8 else 1) w';rw[show (if (er==8)=true then 8 else 1)=er by rcases her with rfl | rfl <;> rfl];exact hs.2
   | ok x j=>
     obtain⟨hsx,hnx,hj1,hj2⟩:=exR_smallD h hk1 hr;show Calls _ _ _ _ fun e w2=>∃ (x':Ex) (A':Option Addr) (c':Nat),e= .returned (.agg #[.int .i64 x'.kind,.int .i64 x'.n,.string ⟨x'.name.toArray⟩,.string ⟨x'.op.toArray⟩,.slice A' x'.kids.length c'])∧StepD b w S A n c l ((needF l 4 [41] j).then fun _ m=>if mayX x 0 then Rz.ok x m else .bad k true).at ((needF l 4 [41] j).then fun _ m=>if mayX x 0 then Rz.ok x m else .bad k true).err w2∧∀ y j',((needF l 4 [41] j).then fun _ m=>if mayX x 0 then Rz.ok x m else .bad k true)= .ok y j'→y=x'∧KidsX (FrX w.heap.size w2.heap.size) w2 A' x'
     cases hq:isO l 4 [41] j 0 with
     | false=>
       have e5:=need_no (l:=l) (kd:=4) (s:=[41]) (k:=j) (.inl rfl) hq;have e6:needF l 4 [41] j= .bad j false:=by unfold needF;exact if_neg (by rw[←isO_zero,hq];decide)
       rw[e6];refine(dcond_open b w S A n c l k (k+1) x j h hj2 KN (padC_ok hr) (neeC b S A n c l 4 (by decide) ⟨#[41]⟩ j 0 e5.1 e5.2.1)).mono fun e w' hs=>?_
       obtain⟨A2,c2,he,hs⟩:=hs;exact⟨x,A2,c2,he,hs,fun y m hy=>by cases hy⟩
     | true=>
       have e5:=need_yes hq;have e6:needF l 4 [41] j= .ok () (j+1):=e5;rw[e6];have KM:=neeC b S A n c l 4 (by decide) ⟨#[41]⟩ j 0 (congrArg Rz.at e5) (congrArg Rz.err e5)
       have KY:Hid (∀ w' A2 c2,KidsX (FrX w.heap.size w'.heap.size) w' A2 x→Calls Tryz.prog 71 #[.agg #[.int .i64 x.kind,.int .i64 x.n,.string ⟨x.name.toArray⟩,.string ⟨x.op.toArray⟩,.slice A2 x.kids.length c2],.int .i64 0] w' fun e w2=>e= .returned (.bool (mayX x 0))∧Below w'.heap.size w' w2):=Lib.hid fun w' A2 c2 hk=>by
        have:=rmayX_any x A2 c2 0 w' (hk.wide fun _ hq=>hq.2) (by decide) hnx;rw[valX_eq] at this;exact this
       cases hm:mayX x 0 with
       | true=>
         rw[hm] at KY;refine(dcond_ok b w S A n c l k (k+1) x j h hj2 KN (padC_ok hr) KM KY).mono fun e w' hs=>?_
         obtain⟨A2,c2,he,hs,hk⟩:=hs;exact⟨x,A2,c2,he,hs,fun y m hy=>by injection hy with hy;subst hy;exact⟨rfl,hk⟩⟩
       | false=>
         rw[hm] at KY;refine(dcond_deep b w S A n c l k (k+1) x j h hj2 KN (padC_ok hr) KM KY (faiC (z:=8) b S A n c l k 8 (j+1) 0 (.inr rfl) h.le rfl (if_pos rfl) (if_pos rfl))).mono fun e w' hs=>?_
         obtain⟨A2,c2,he,hs⟩:=hs;exact⟨x,A2,c2,he,hs,fun y m hy=>by cases hy⟩
def RowD (b:Nat) (w:World) (S:ByteArray) (A:Option Addr) (n c:Nat) (l:List Tok) (R:Rz (List Cm)) (e:Ending) (w':World):Prop:=
 ∃ (A':Option Addr) (xs:List Cm) (c':Nat),e= .returned (.slice A' xs.length c')∧StepD b w S A n c l R.at R.err w'∧(∀ y j,R= .ok y j→y=xs)∧(R.err=0→RowC (NwX b w.heap.size w'.heap.size) w' A' xs)
def RecD (b:Nat) (S:ByteArray) (A:Option Addr) (n c:Nat) (l:List Tok) (rec:Nat→Nat→Rz (List Cm)) (k0:Nat):Prop:=
 ∀ (d k o:Nat) (w':World),(o=0→k0≤k∧d≤16)→d≤100→DocS b w' S A n c l k o→Calls Tryz.prog 24 #[.pointer (some ⟨b,0,none⟩),.int .i64 d] w' (RowD b w' S A n c l (gate o k (rec d)))
def BlkD (b:Nat) (S:ByteArray) (A:Option Addr) (n c:Nat) (l:List Tok) (blk:Nat→Nat→Rz (List Cm)) (k0:Nat):Prop:=
 ∀ (d k o:Nat) (w':World),(o=0→k0≤k∧d≤16)→d≤99→DocS b w' S A n c l k o→Calls Tryz.prog 68 #[.pointer (some ⟨b,0,none⟩),.int .i64 d] w' (RowD b w' S A n c l (gate o k (blk d)))
theorem brace_need {l:List Tok} {d k o:Nat} (h:¬ (isO l 4 [123] k o=true∧d=16)):gate o k (braceF l d)=gate o k (needF l 4 [123]):=by
 unfold gate;by_cases ho:o=0
 ·subst ho
  rw[if_pos rfl,if_pos rfl];unfold braceF;rw[if_neg fun e=>h ⟨e.2,e.1⟩]
 ·rw[if_neg ho,if_neg ho]
theorem dblock_any (b:Nat) (S:ByteArray) (A:Option Addr) (n c:Nat) (l:List Tok) (rec:Nat→Nat→Rz (List Cm)) (k0:Nat) (HR:RecD b S A n c l rec k0):BlkD b S A n c l (blockF l rec) k0:=by
 intro d k o w hk hd h;have H:=Lib.hid (Cy.start h);have hlt:=h.lt;by_cases h16:isO l 4 [123] k o=true∧d=16
 ·obtain⟨hi,rfl⟩:=h16
  have KI:=isC b S A n c l 4 (by decide) ⟨#[123]⟩ k o hi;obtain⟨rfl,hi2⟩:=isO_lt (by decide) hi
  have eR:gate 0 k (blockF l rec 16)= .bad k true:=by
   rw[gate_ok];unfold blockF braceF;rw[if_pos ⟨rfl,hi2⟩];rfl
  rw[eR];have KR:=faiC (z:=8) b S A n c l k 8 k 0 (.inr rfl) h.le rfl (if_pos rfl) (if_pos rfl);unfold RowD
  suffices hs:Calls Tryz.prog 68 #[.pointer (some ⟨b,0,none⟩),.int .i64 16] w fun e w'=>e= .returned (.slice none 0 0)∧StepD b w S A n c l k 8 w' from
   hs.mono fun e w' ⟨h1,h2⟩=>⟨none,[],0,h1,h2,fun y j hy=>(by cases hy),fun h0=>(by cases h0)⟩
  clear hk hd h HR eR hi hi2;go_enter Tryz.func68,Tryz.ntmps68;go_wp2_with (first | (go_at_call 41;go_must (((with_reducible refine(KI.out _ H.out.rd).mono ?_));rintro e w1 ⟨rfl,hb1⟩;have HC:=Lib.hid (H.out.below hb1);have x2:=HC.out.rd.at0;clear hb1)) | (go_at_call 25;go_must (((with_reducible refine(KR.out _ HC.out.rd).mono ?_));rintro e w2 ⟨rfl,hs2⟩;have HD:=Lib.hid (HC.out.call hs2);clear hs2)));go_ret;exact⟨rfl,HD.out.step⟩
 ·have hz:(gate o k (braceF l d)).err=0→k0≤(gate o k (braceF l d)).at∧d+1≤16:=fun he=>by
   obtain⟨ho,u,hu⟩:=gate_zero h.oks he;have h1:=braceF_ok hu;have h2:=hk ho;omega
  have eR:gate o k (blockF l rec d)=(gate (gate o k (braceF l d)).err (gate o k (braceF l d)).at (rec (d+1))).then fun x j=>(needF l 4 [125] j).then fun _ m=> .ok x m:=by
   rw[←then_seq (x:=()) unit_eq (rec (d+1)) (fun _ x j=>(needF l 4 [125] j).then fun _ m=> .ok x m),←gate_seq];rfl
  rw[eR];have KI:∃ v,Hid (v=true→¬ (16:Int)≤d)∧IsC b S A n c l 4 ⟨#[123]⟩ k o v:=⟨_,Lib.hid fun hv hd16=>h16 ⟨hv,by have:=(hk (isO_lt (by decide) hv).1).2;omega⟩,isC b S A n c l 4 (by decide) ⟨#[123]⟩ k o rfl⟩;obtain⟨v,HV,KI⟩:=KI;have K1:=neeC b S A n c l 4 (by decide) ⟨#[123]⟩ k o (k2:=(gate o k (braceF l d)).at) (o2:=(gate o k (braceF l d)).err) (by rw[brace_need h16]) (by rw[brace_need h16]);generalize gate o k (braceF l d)=R1 at K1 hz ⊢;have K2:Hid (∀ w',DocS b w' S A n c l R1.at R1.err→Calls Tryz.prog 24 #[.pointer (some ⟨b,0,none⟩),.int .i64 ((d:Int)+1)] w' (RowD b w' S A n c l (gate R1.err R1.at (rec (d+1))))):=Lib.hid fun w' h'=>HR (d+1) _ _ w' hz (by omega) h'
  generalize gate R1.err R1.at (rec (d+1))=R2 at K2 ⊢;have K3:=neeC b S A n c l 4 (by decide) ⟨#[125]⟩ R2.at R2.err rfl rfl;rw[show (⟨#[125]⟩:ByteArray).data.toList=[125] from rfl] at K3;have HE:Hid (∀ xs,(∀ y j,R2= .ok y j→y=xs)→(R2.then fun x j=>(needF l 4 [125] j).then fun _ m=> .ok x m)=(gate R2.err R2.at (needF l 4 [125])).then fun _ m=> .ok xs m):=Lib.hid fun xs hx=>then_seq hx (needF l 4 [125]) (fun x _ m=> .ok x m)
  have HZ:Hid ((gate R2.err R2.at (needF l 4 [125])).err=0→R2.err=0):=Lib.hid fun h=>(gate_zero R2.err_cases h).1
  generalize gate R2.err R2.at (needF l 4 [125])=R3 at K3 HE HZ;unfold RowD at K2;clear hz hk h HR eR h16;generalize (R2.then fun x j=>(needF l 4 [125] j).then fun _ m=>Rz.ok x m)=R at HE ⊢;unfold RowD
  have fin:∀ (A2:Option Addr) (xs:List Cm) (c2:Nat) (w1 w2 w3:World),Cy b w w1 S A n c l R1.at R1.err []→StepD b w1 S A n c l R2.at R2.err w2→(∀ y j,R2= .ok y j→y=xs)→(R2.err=0→RowC (NwX b w1.heap.size w2.heap.size) w2 A2 xs)→StepD b w2 S A n c l R3.at R3.err w3→∃ (A':Option Addr) (xs':List Cm) (c':Nat),Ending.returned (.slice A2 xs.length c2)= .returned (.slice A' xs'.length c')∧StepD b w S A n c l R.at R.err w3∧(∀ y j,R= .ok y j→y=xs')∧(R.err=0→RowC (NwX b w.heap.size w3.heap.size) w3 A' xs'):=fun A2 xs c2 w1 w2 w3 hc hs2 hv2 hr2 hs3=>by
   have e:=HE.out xs hv2;have hm:=then_last (R:=R3) (x:=()) unit_eq (fun _=>xs);refine⟨A2,xs,c2,rfl,?_,?_,?_⟩
   ·rw[e,hm.1,hm.2.1];exact((hc.call hs2).call hs3).step
   ·rw[e];exact fun y j h=>(hm.2.2 y j h).1
   ·rw[e,hm.2.1]
    intro h3;have hlt:=hc.lt;have h12:=hc.gr.size;have h23:=hs2.1.size;have h34:=hs3.1.size;exact(hr2 (HZ.out h3)).of (NwX.cell hs3.1 (by omega) (Nat.le_refl _) h23) (NwX.wide h12 h34)
  have HF:=Lib.hid fin;clear fin HE HZ
  cases v with
  | true=>
    have h16:=HV.out rfl;clear HV;go_enter Tryz.func68,Tryz.ntmps68;go_wp2_with (first | (go_at_call 41;go_must (((with_reducible refine(KI.out _ H.out.rd).mono ?_));rintro e w0 ⟨rfl,hb0⟩;have H0:=Lib.hid (H.out.below hb0);clear hb0)) | (go_at_call 93;((with_reducible refine(K1.out _ H0.out.rd).mono ?_);rintro e w1 ⟨rfl,hs1⟩;have HC:=Lib.hid (H0.out.call hs1);clear hs1)) | (go_at_call 24;go_must (((with_reducible refine(K2.out _ HC.out.rd).mono ?_));rintro e w2 ⟨A2,xs,c2,rfl,hs2,hv2,hr2⟩;have HD:=Lib.hid (HC.out.call hs2);have HV:=Lib.hid hv2;have HR:=Lib.hid hr2;have HG2:=Lib.hid hs2;clear hs2 hv2 hr2)) | (go_at_call 93;go_must (((with_reducible refine(K3.out _ HD.out.rd).mono ?_));rintro e w3 ⟨rfl,hs3⟩;have HG3:=Lib.hid hs3;clear hs3)));go_ret;exact HF.out _ _ _ _ _ _ HC.out HG2.out HV.out HR.out HG3.out
  | false=>
    clear HV;go_enter Tryz.func68,Tryz.ntmps68;go_wp2_with (first | (go_at_call 41;go_must (((with_reducible refine(KI.out _ H.out.rd).mono ?_));rintro e w0 ⟨rfl,hb0⟩;have H0:=Lib.hid (H.out.below hb0);clear hb0)) | (go_at_call 93;((with_reducible refine(K1.out _ H0.out.rd).mono ?_);rintro e w1 ⟨rfl,hs1⟩;have HC:=Lib.hid (H0.out.call hs1);clear hs1)) | (go_at_call 24;go_must (((with_reducible refine(K2.out _ HC.out.rd).mono ?_));rintro e w2 ⟨A2,xs,c2,rfl,hs2,hv2,hr2⟩;have HD:=Lib.hid (HC.out.call hs2);have HV:=Lib.hid hv2;have HR:=Lib.hid hr2;have HG2:=Lib.hid hs2;clear hs2 hv2 hr2)) | (go_at_call 93;go_must (((with_reducible refine(K3.out _ HD.out.rd).mono ?_));rintro e w3 ⟨rfl,hs3⟩;have HG3:=Lib.hid hs3;clear hs3)));go_ret;exact HF.out _ _ _ _ _ _ HC.out HG2.out HV.out HR.out HG3.out
def flS:Nat→ByteArray
 | 0=>⟨#[101,120]⟩
 | 1=>⟨#[103,108]⟩
 | _=>⟨#[114,101]⟩
theorem Cy.four {b:Nat} {w W:World} {S:ByteArray} {A:Option Addr} {n c:Nat} {l:List Tok} {k o:Nat} {bs:List (Nat × List Value)} {q q' q2 q3:Nat} {vs vs' vs2 vs3:List Value} (h:Cy b w W S A n c l k o ((q,vs)::(q',vs')::(q2,vs2)::(q3,vs3)::bs)):b<w.heap.size∧w.heap.size≤q3∧q3<q2∧q2<q'∧q'<q∧q<W.heap.size:=
 ⟨h.lt,(h.has 3 q3 vs3 rfl).1,(List.pairwise_cons.1 (List.pairwise_cons.1 (List.pairwise_cons.1 h.ap).2).2).1 (q3,vs3) (by simp),(List.pairwise_cons.1 (List.pairwise_cons.1 h.ap).2).1 (q2,vs2) (by simp),(List.pairwise_cons.1 h.ap).1 (q',vs') (by simp),(h.has 0 q vs rfl).2⟩
abbrev BlD (b:Nat) (S:ByteArray) (A:Option Addr) (n c:Nat) (l:List Tok) (d k o:Nat) (R:Rz (List Cm)):Prop:=Hid (∀ w',DocS b w' S A n c l k o→Calls Tryz.prog 68 #[.pointer (some ⟨b,0,none⟩),.int .i64 d] w' fun e w2=>
 ∃ (A':Option Addr) (xs:List Cm) (c':Nat),e= .returned (.slice A' xs.length c')∧StepD b w' S A n c l R.at R.err w2∧(∀ y j,R= .ok y j→y=xs)∧(R.err=0→RowC (NwX b w'.heap.size w2.heap.size) w2 A' xs))
def RulQ (b:Nat) (w:World) (S:ByteArray) (A:Option Addr) (n c:Nat) (l:List Tok) (pl:Int) (Q:Int→Int→Int→Bs→Prop) (R3:Rz (List Cm)) (e:Ending) (w':World):Prop:=
 ∃ (kd q pk:Int) (pt:Bs) (A':Option Addr) (xs:List Cm) (c':Nat),e= .returned (.agg #[.int .i64 kd,.int .i64 q,.int .i64 pk,.string ⟨pt.toArray⟩,.slice A' xs.length c',.int .i64 pl])∧StepD b w S A n c l R3.at R3.err w'∧Q kd q pk pt∧(∀ y j,R3= .ok y j→y=xs)∧(R3.err=0→RowC (NwX b w.heap.size w'.heap.size) w' A' xs)
theorem takFew {b:Nat} {S:ByteArray} {A:Option Addr} {n c:Nat} {l:List Tok} {a e:Nat} {y2:Tok} {m2:Nat} (K2:TakC b S A n c l 3 a 0 (.ok y2 e)) (hm2:m2=y2.parts.length):Hid (∀ w',DocS b w' S A n c l a 0→Calls Tryz.prog 66 #[.pointer (some ⟨b,0,none⟩),.int .i64 3] w' fun e' w2=>∃ A' c',e'= .returned (.agg #[.int .i64 y2.kind,.string ⟨y2.word.toArray⟩,.int .i64 y2.n,.slice A' m2 c',.int .i64 y2.pl])∧StepD b w' S A n c l e 0 w2∧Rd b w2 A' m2 y2.parts):=Lib.hid fun w' h'=>(K2.out w' h').mono fun e' w2 ⟨t,A',c',h1,h2,h3,h4⟩=>by
 obtain rfl:=h4 y2 _ rfl;rw[hm2];exact⟨A',c',h1,h2,h3⟩
theorem flS_at {j:Nat} (h:j<3):[Value.string ⟨#[101,120]⟩,.string ⟨#[103,108]⟩,.string ⟨#[114,101]⟩][j]?=some (.string (flS j)):=by
 obtain rfl | rfl | rfl:j=0∨j=1∨j=2:=by omega
 all_goals rfl
theorem RowC.box6D {b lo hi m:Nat} {W:World} {A:Option Addr} {xs:List Cm} (h:RowC (NwX b lo hi) W A xs) (hm:m<lo) (hb:b≤m) (v0 v1 v2 v3 v4 v5:Value):
 RowC (NwX b lo hi) ((((((W.setCell ⟨m,0,none⟩ v0).setCell ⟨m,1,none⟩ v1).setCell ⟨m,2,none⟩ v2).setCell ⟨m,3,none⟩ v3).setCell ⟨m,4,none⟩ v4).setCell ⟨m,5,none⟩ v5) A xs:=h.box6 hm hb v0 v1 v2 v3 v4 v5
end Go.Proofs.YtfgcdppebeojbaaGreatDoor
