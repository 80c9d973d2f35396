import Derived.Test.YtdobinjbejagcaaGreatDoorPe6
import Derived.Test.YtdobinjbejagcaaGreatDoorTkG
import Derived.Test.YtdobinjbejagcaaGreatDoorTkO
import Derived.Test.YtdobinjbejagcaaGreatDoorParse
namespace Go.Proofs.YtdobinjbejagcaaGreatDoor
open Go Go.RowKit
set_option maxRecDepth 100000
set_option maxHeartbeats 4000000
section
theorem setP_same (w:World) (c j:Nat) (u u':Value) (h:w.cell? ⟨c,j,none⟩=some u):(w.setCell ⟨c,j,none⟩ u').cell? ⟨c,j,none⟩=some u':=World.cell?_setCell_same _ _ _ h
theorem setP_ne (w:World) (c j i:Nat) (u':Value) (h:j≠i):(w.setCell ⟨c,j,none⟩ u').cell? ⟨c,i,none⟩=w.cell? ⟨c,i,none⟩:=World.cell?_setCell_other _ _ _ _ (fun e=>by injection e with _ e;omega)
theorem grnP_trans {b:Nat} {w w1 w2:World} (h:w.grownBy w1 (some b)) (k:w1.grownBy w2 (some b)):w.grownBy w2 (some b):=
 ⟨k.os.trans h.os,k.tape.trans h.tape,k.output.trans h.output,Nat.le_trans h.size k.size,fun i hi hn=>(k.block i (Nat.lt_of_lt_of_le hi h.size) hn).trans (h.block i hi hn)⟩
theorem grnP_below {b:Nat} {w w1:World} (h:Below w.heap.size w w1):w.grownBy w1 (some b):=⟨h.os,h.tape,h.output,h.size,fun k hk _=>h.block k hk⟩
theorem grnP_set (b o:Nat) (w:World) (u:Value):w.grownBy (w.setCell ⟨b,o,none⟩ u) (some b):=⟨rfl,rfl,rfl,by simp[World.setCell],fun k _ hn=>Below.heap_setCell _ _ _ _ (fun e=>hn (by rw[e]))⟩
theorem neqP0 {a:Nat} (h:¬ a=0):((a:Int)==0)=false∧(a==0)=false∧((a:Int) != 0)=true∧(a != 0)=true:=by
 refine⟨?_,?_,?_,?_⟩ <;> simp <;> omega
theorem bytesP_eq {t:Bs} {S W:ByteArray} (hS:S=⟨t.toArray⟩):(t=W.data.toList) ↔ S=W:=by
 subst hS
 constructor
 ·rintro rfl;rfl
 ·rintro rfl;rfl
theorem toListP_ne {S W:ByteArray} (h:¬ S=W):(S.toList==W.toList)=false:=by
 rw[toList_data,toList_data];apply beq_false_of_ne;intro e;apply h
 cases S;cases W
 congr 1
 exact Array.toList_inj.1 e
structure FitP (l:List Tok):Prop where
 ok:∀ t∈l,okT t=true
 fit:∀ t∈l,FitT t
 len:l.length≤1000000
def strsP (ns:List Bs):List Value:=ns.map fun s=>Value.string ⟨s.toArray⟩
def atsP (ns:List Nat):List Value:=ns.map fun (a:Nat)=>Value.int .i64 (a:Int)
structure OwnRd (b:Nat) (w:World) (o:Nat) (gs:Gs) (qq:Nat) (vN vG:Value):Prop where
 ex:∃ (ns:List Bs) (ats:List Nat),w.ownsRow (b+1) 9 1 vN ns.length (strsP ns)∧w.ownsRow (b+1) 3 1 vG ats.length (atsP ats)∧ns.length=ats.length∧(o=0→ns=gs.map (·.1)∧ats=gs.map (·.2))∧ns.length≤gs.length+qq
 ap:∀ g,vN.ownBlock=some g→vG.ownBlock≠some g
def SoftC (l:List Tok) (sf:Sf) (e p:Int):Prop:=match softsP l none sf with
 | none=>e=0
 | some y=>e=y.2∧p=y.1∧e≠0
structure DocP (b:Nat) (w:World) (S:ByteArray) (A:Option Addr) (n c:Nat) (l:List Tok) (k o:Nat) (sf:Sf) (gs:Gs) (qq:Nat) (vN vG:Value):Prop where
 c0:w.cell? ⟨b,0,none⟩=some (.string S)
 c1:w.cell? ⟨b,1,none⟩=some (.slice A n c)
 ex:∃ (a:Nat) (p:Int),w.cell? ⟨b,2,none⟩=some (.int .i64 a)∧w.cell? ⟨b,3,none⟩=some (.int .i64 p)∧a≤n∧(o=0→a=k∧p=0)∧(o≠0→p=placeOf S.size l k)
 c4:w.cell? ⟨b,4,none⟩=some (.int .i64 o)
 ey:∃ e p:Int,w.cell? ⟨b,5,none⟩=some (.int .i64 e)∧w.cell? ⟨b,6,none⟩=some (.int .i64 p)∧(o=0→SoftC l sf e p)
 c7:w.cell? ⟨b,7,none⟩=some vN
 c8:w.cell? ⟨b,8,none⟩=some vG
 fr:∀ j,j<9→w.frozen? ⟨b,j,none⟩=false
 own:OwnRd b w o gs qq vN vG
 row:RdT b w A n l
 fit:FitP l
 le:k≤n
 oks:o=0∨o=1
 few:n≤4000
section
variable {b:Nat} {w w':World} {S:ByteArray} {A:Option Addr} {n c:Nat} {l:List Tok} {k o:Nat} {sf:Sf} {gs:Gs} {qq:Nat} {vN vG:Value}
theorem OwnRd.grown {row:Option Nat} (h:OwnRd b w o gs qq vN vG) (hg:w.grownBy w' row) (h1:∀ g,row=some g→vN.ownBlock≠some g∧vG.ownBlock≠some g):OwnRd b w' o gs qq vN vG:=by
 obtain⟨ns,ats,r1,r2,e1,e2,e3⟩:=h.ex;refine⟨⟨ns,ats,r1.kept hg ?_,r2.kept hg ?_,e1,e2,e3⟩,h.ap⟩
 ·cases hv:vN.ownBlock with
  | none=>exact .inl rfl
  | some g=>exact .inr fun e=>(h1 g e.symm).1 hv
 ·cases hv:vG.ownBlock with
  | none=>exact .inl rfl
  | some g=>exact .inr fun e=>(h1 g e.symm).2 hv
theorem OwnRd.above (h:OwnRd b w o gs qq vN vG):(∀ g,vN.ownBlock=some g→b<g∧g<w.heap.size)∧∀ g,vG.ownBlock=some g→b<g∧g<w.heap.size:=by
 obtain⟨ns,ats,r1,r2, -⟩:=h.ex;exact⟨fun g hg=>by have:=r1.lt g hg;omega,fun g hg=>by have:=r2.lt g hg;omega⟩
theorem DocP.lt (h:DocP b w S A n c l k o sf gs qq vN vG):b<w.heap.size:=World.block_lt_of_cell? w _ h.c0
theorem DocP.len (h:DocP b w S A n c l k o sf gs qq vN vG):n=l.length∧n≤1000000:=⟨h.row.1,by rw[h.row.1];exact h.fit.len⟩
theorem DocP.same (h:DocP b w S A n c l k o sf gs qq vN vG) (hc:∀ j,w'.cell? ⟨b,j,none⟩=w.cell? ⟨b,j,none⟩) (hf:∀ j,j<9→w'.frozen? ⟨b,j,none⟩=w.frozen? ⟨b,j,none⟩) (hr:RdT b w' A n l) (ho:OwnRd b w' o gs qq vN vG):DocP b w' S A n c l k o sf gs qq vN vG:=by
 obtain⟨a,p,h2,h3,h4,h5,h6⟩:=h.ex;obtain⟨e,p',y5,y6,y7⟩:=h.ey;exact⟨(hc 0).trans h.c0,(hc 1).trans h.c1,⟨a,p,(hc 2).trans h2,(hc 3).trans h3,h4,h5,h6⟩,(hc 4).trans h.c4,⟨e,p',(hc 5).trans y5,(hc 6).trans y6,y7⟩,(hc 7).trans h.c7,(hc 8).trans h.c8,fun j hj=>(hf j hj).trans (h.fr j hj),ho,hr,h.fit,h.le,h.oks,h.few⟩
theorem DocP.low (h:DocP b w S A n c l k o sf gs qq vN vG) (hB:Below w.heap.size w w'):DocP b w' S A n c l k o sf gs qq vN vG:=
 h.same (fun j=>hB.cell (p:=⟨b,j,none⟩) h.lt) (fun j _=>hB.frozen (p:=⟨b,j,none⟩) h.lt) (h.row.keep (hB.mono (Nat.le_of_lt h.lt))) (h.own.grown (row:=none) ⟨hB.os,hB.tape,hB.output,hB.size,fun k hk _=>hB.block k hk⟩ (by simp))
theorem DocP.other (h:DocP b w S A n c l k o sf gs qq vN vG) {a:Addr} (ha:b<a.block) (h1:vN.ownBlock≠some a.block) (h2:vG.ownBlock≠some a.block) (u:Value):DocP b (w.setCell a u) S A n c l k o sf gs qq vN vG:=
 h.same (fun j=>World.cell?_setCell_other _ _ _ _ (fun e=>by rw[e] at ha;exact absurd ha (Nat.lt_irrefl _))) (fun j _=>World.frozen?_setCell ..) (h.row.keep ((Below.refl b w).setCell (by omega) _))
  (h.own.grown (row:=some a.block) ⟨rfl,rfl,rfl,by simp[World.setCell],fun k _ hn=>Below.heap_setCell _ _ _ _ (fun e=>hn (by rw[e]))⟩ fun g hg=>by injection hg with hg;subst hg;exact⟨h1,h2⟩)
theorem DocP.at0 (h:DocP b w S A n c l k 0 sf gs qq vN vG):w.cell? ⟨b,2,none⟩=some (.int .i64 k):=by
 obtain⟨a,p,h2,_,_,h5,_⟩:=h.ex;rw[(h5 rfl).1] at h2;exact h2
theorem DocP.pl0 (h:DocP b w S A n c l k 0 sf gs qq vN vG):w.cell? ⟨b,3,none⟩=some (.int .i64 0):=by
 obtain⟨a,p,_,h3,_,h5,_⟩:=h.ex;rw[(h5 rfl).2] at h3;exact h3
theorem OwnRd.box (h:OwnRd b w o gs qq vN vG) (j:Nat) (u:Value):OwnRd b (w.setCell ⟨b,j,none⟩ u) o gs qq vN vG:=
 h.grown (grnP_set b j w u) fun g hg=>by
  injection hg with hg
  subst hg;exact⟨fun e=>absurd (h.above.1 _ e).1 (Nat.lt_irrefl _),fun e=>absurd (h.above.2 _ e).1 (Nat.lt_irrefl _)⟩
theorem OwnRd.fell {o':Nat} (h:OwnRd b w o gs qq vN vG) (ho:o'=0→o=0):OwnRd b w o' gs qq vN vG:=by
 obtain⟨ns,ats,r1,r2,e1,e2,e3⟩:=h.ex;exact⟨⟨ns,ats,r1,r2,e1,fun e=>e2 (ho e),e3⟩,h.ap⟩
theorem DocP.place (h:DocP b w S A n c l k 0 sf gs qq vN vG) (j:Nat) (z:Int) (hz:z=j) (hj:j≤n):DocP b (w.setCell ⟨b,2,none⟩ (.int .i64 z)) S A n c l j 0 sf gs qq vN vG:=by
 subst hz;obtain⟨e,p',y5,y6,y7⟩:=h.ey
 exact⟨(setP_ne _ _ _ _ _ (by omega)).trans h.c0,(setP_ne _ _ _ _ _ (by omega)).trans h.c1,⟨j,0,setP_same _ _ _ _ _ h.at0,(setP_ne _ _ _ _ _ (by omega)).trans h.pl0,hj,fun _=>⟨rfl,rfl⟩,fun e=>absurd rfl e⟩,(setP_ne _ _ _ _ _ (by omega)).trans h.c4,
  ⟨e,p',(setP_ne _ _ _ _ _ (by omega)).trans y5,(setP_ne _ _ _ _ _ (by omega)).trans y6,y7⟩,(setP_ne _ _ _ _ _ (by omega)).trans h.c7,(setP_ne _ _ _ _ _ (by omega)).trans h.c8,
  fun i hi=>(World.frozen?_setCell ..).trans (h.fr i hi),h.own.box _ _,h.row.keep ((Below.refl b w).setCell (Nat.le_refl b) _),h.fit,hj,h.oks,h.few⟩
theorem DocP.fault (h:DocP b w S A n c l k 0 sf gs qq vN vG) (p1 p2:Int) (hp:p2=placeOf S.size l k):DocP b (((w.setCell ⟨b,4,none⟩ (.int .i64 1)).setCell ⟨b,3,none⟩ (.int .i64 p1)).setCell ⟨b,3,none⟩ (.int .i64 p2)) S A n c l k 1 sf gs qq vN vG:=by
 have ne:∀ j,j≠3→j≠4→(((w.setCell ⟨b,4,none⟩ (.int .i64 1)).setCell ⟨b,3,none⟩ (.int .i64 p1)).setCell ⟨b,3,none⟩ (.int .i64 p2)).cell? ⟨b,j,none⟩=w.cell? ⟨b,j,none⟩:=fun j h3 h4=>by
  rw[setP_ne _ _ _ _ _ (by omega),setP_ne _ _ _ _ _ (by omega),setP_ne _ _ _ _ _ (by omega)]
 have x3:((w.setCell ⟨b,4,none⟩ (.int .i64 1)).setCell ⟨b,3,none⟩ (.int .i64 p1)).cell? ⟨b,3,none⟩=some (.int .i64 p1):=setP_same _ _ _ _ _ ((setP_ne _ _ _ _ _ (by omega)).trans h.pl0);obtain⟨e,p',y5,y6,y7⟩:=h.ey
 refine⟨(ne 0 (by decide) (by decide)).trans h.c0,(ne 1 (by decide) (by decide)).trans h.c1,⟨k,p2,(ne 2 (by decide) (by decide)).trans h.at0,setP_same _ _ _ _ _ x3,h.le,fun e0=>by omega,fun _=>hp⟩,?_,⟨e,p',(ne 5 (by decide) (by decide)).trans y5,(ne 6 (by decide) (by decide)).trans y6,fun e0=>by omega⟩,(ne 7 (by decide) (by decide)).trans h.c7,(ne 8 (by decide) (by decide)).trans h.c8,
  fun i hi=>?_,(((h.own.box _ _).box _ _).box _ _).fell (by omega),h.row.keep ((((Below.refl b w).setCell (Nat.le_refl b) _).setCell (Nat.le_refl b) _).setCell (Nat.le_refl b) _),h.fit,h.le,.inr rfl,h.few⟩
 ·rw[setP_ne _ _ _ _ _ (by omega),setP_ne _ _ _ _ _ (by omega)]
  exact setP_same _ _ _ _ _ h.c4
 ·rw[World.frozen?_setCell,World.frozen?_setCell,World.frozen?_setCell];exact h.fr i hi
theorem DocP.fault1 (h:DocP b w S A n c l k 0 sf gs qq vN vG) (p:Int) (hp:p=placeOf S.size l k):DocP b ((w.setCell ⟨b,4,none⟩ (.int .i64 1)).setCell ⟨b,3,none⟩ (.int .i64 p)) S A n c l k 1 sf gs qq vN vG:=by
 have ne:∀ j,j≠3→j≠4→((w.setCell ⟨b,4,none⟩ (.int .i64 1)).setCell ⟨b,3,none⟩ (.int .i64 p)).cell? ⟨b,j,none⟩=w.cell? ⟨b,j,none⟩:=fun j h3 h4=>by
  rw[setP_ne _ _ _ _ _ (by omega),setP_ne _ _ _ _ _ (by omega)]
 obtain⟨e,p',y5,y6,y7⟩:=h.ey
 refine⟨(ne 0 (by decide) (by decide)).trans h.c0,(ne 1 (by decide) (by decide)).trans h.c1,⟨k,p,(ne 2 (by decide) (by decide)).trans h.at0,setP_same _ _ _ _ _ ((setP_ne _ _ _ _ _ (by omega)).trans h.pl0),h.le,fun e0=>by omega,fun _=>hp⟩,?_,⟨e,p',(ne 5 (by decide) (by decide)).trans y5,(ne 6 (by decide) (by decide)).trans y6,fun e0=>by omega⟩,(ne 7 (by decide) (by decide)).trans h.c7,(ne 8 (by decide) (by decide)).trans h.c8,
  fun i hi=>?_,((h.own.box _ _).box _ _).fell (by omega),h.row.keep (((Below.refl b w).setCell (Nat.le_refl b) _).setCell (Nat.le_refl b) _),h.fit,h.le,.inr rfl,h.few⟩
 ·rw[setP_ne _ _ _ _ _ (by omega)]
  exact setP_same _ _ _ _ _ h.c4
 ·rw[World.frozen?_setCell,World.frozen?_setCell];exact h.fr i hi
theorem DocP.noted (h:DocP b w S A n c l k 0 sf gs qq vN vG) (sf':Sf) (e p:Int) (hs:SoftC l sf' e p):DocP b ((w.setCell ⟨b,5,none⟩ (.int .i64 e)).setCell ⟨b,6,none⟩ (.int .i64 p)) S A n c l k 0 sf' gs qq vN vG:=by
 have ne:∀ j,j≠5→j≠6→((w.setCell ⟨b,5,none⟩ (.int .i64 e)).setCell ⟨b,6,none⟩ (.int .i64 p)).cell? ⟨b,j,none⟩=w.cell? ⟨b,j,none⟩:=fun j h3 h4=>by
  rw[setP_ne _ _ _ _ _ (by omega),setP_ne _ _ _ _ _ (by omega)]
 obtain⟨e',p',y5,y6, -⟩:=h.ey
 refine⟨(ne 0 (by decide) (by decide)).trans h.c0,(ne 1 (by decide) (by decide)).trans h.c1,⟨k,0,(ne 2 (by decide) (by decide)).trans h.at0,(ne 3 (by decide) (by decide)).trans h.pl0,h.le,fun _=>⟨rfl,rfl⟩,fun e=>absurd rfl e⟩,(ne 4 (by decide) (by decide)).trans h.c4,⟨e,p,?_,setP_same _ _ _ _ _ ((setP_ne _ _ _ _ _ (by omega)).trans y6),fun _=>hs⟩,(ne 7 (by decide) (by decide)).trans h.c7,(ne 8 (by decide) (by decide)).trans h.c8,
  fun i hi=>?_,(h.own.box _ _).box _ _,h.row.keep (((Below.refl b w).setCell (Nat.le_refl b) _).setCell (Nat.le_refl b) _),h.fit,h.le,.inl rfl,h.few⟩
 ·rw[setP_ne _ _ _ _ _ (by omega)]
  exact setP_same _ _ _ _ _ y5
 ·rw[World.frozen?_setCell,World.frozen?_setCell];exact h.fr i hi
theorem DocP.noting (h:DocP b w S A n c l k o sf gs qq vN vG) (sf':Sf) (hs:o=0→softsP l none sf'=softsP l none sf):DocP b w S A n c l k o sf' gs qq vN vG:=by
 obtain⟨e,p,y5,y6,y7⟩:=h.ey;exact⟨h.c0,h.c1,h.ex,h.c4,⟨e,p,y5,y6,fun o0=>by have:=y7 o0;unfold SoftC at this ⊢;rw[hs o0];exact this⟩,h.c7,h.c8,h.fr,h.own,h.row,h.fit,h.le,h.oks,h.few⟩
end
abbrev StepP (b:Nat) (w:World) (S:ByteArray) (A:Option Addr) (n c:Nat) (l:List Tok) (k o:Nat) (sf:Sf) (gs:Gs) (qq:Nat) (vN vG:Value) (w':World):Prop:=w.grownBy w' (some b)∧DocP b w' S A n c l k o sf gs qq vN vG
end
def isOp (l:List Tok) (kd:Int) (s:Bs) (k o:Nat):Bool:=decide (o=0) && isP l kd s k
theorem isOp_zero (l:List Tok) (kd:Int) (s:Bs) (k:Nat):isOp l kd s k 0=isP l kd s k:=rfl
theorem isOp_bad (l:List Tok) (kd:Int) (s:Bs) (k:Nat) {o:Nat} (ho:¬ o=0):isOp l kd s k o=false:=by unfold isOp;rw[decide_eq_false ho];rfl
theorem isOp_lt {l:List Tok} {kd:Int} {s:Bs} {k o:Nat} (hk:kd≠0) (h:isOp l kd s k o=true):o=0∧isP l kd s k=true∧k<l.length:=by
 unfold isOp at h;rw[Bool.and_eq_true] at h;exact⟨of_decide_eq_true h.1,h.2,isP_lt h.2 hk⟩
theorem pfail_any (b:Nat) (w:World) (S:ByteArray) (A:Option Addr) (n c:Nat) (l:List Tok) (k o:Nat) (sf:Sf) (gs:Gs) (qq:Nat) (vN vG:Value) (h:DocP b w S A n c l k o sf gs qq vN vG):
  Calls Tryz.prog 37 #[.pointer (some ⟨b,0,none⟩)] w fun e w'=>e= .returned (.tuple #[])∧StepP b w S A n c l k 1 sf gs qq vN vG w':=by
 have H:=Lib.hid h;have c0:=h.c0;have c1:=h.c1;have c4:=h.c4;have f3:=h.fr 3 (by decide);have f4:=h.fr 4 (by decide);have hlen:=h.len;have hle:=h.le
 rcases h.oks with rfl | rfl
 ·have c2:=h.at0
  have c3:=h.pl0;by_cases a:k<n
  ·obtain⟨t,ht⟩:∃ t,l[k]?=some t:=⟨_,List.getElem?_eq_getElem (by omega)⟩
   have hpl:t.pl=placeOf S.size l k:=by unfold placeOf;rw[if_pos (by omega),nxp_at ht]
   obtain⟨ad,A',c',rfl,h5,_⟩:=h.row.at_ ht
   obtain⟨x0,x1,x2,x3,x4⟩:=h5;have hbt:(ad.add (k * 5)).block<w.heap.size:=World.block_lt_of_cell? w _ x0
   have hbn:b≠(ad.add (k * 5)).block:=by
    obtain⟨ad2,e2,hl2,_⟩:=h.row.2 (by omega);injection e2 with e2
    subst e2;rw[block_of_add];omega
   have HP:=Lib.hid hpl;have ha1:(k:Int)<n:=by omega
   have hm2:k≤1000000:=by omega
   have hn2:n≤1000000:=by omega
   clear h ht hlen hpl hle;go_enter Tryz.func37,Tryz.ntmps37;go_wp2;go_quiet (fail);go_wp2
   go_region
   go_wp2
   go_end0
   exact⟨rfl,grnP_trans (grnP_trans (grnP_trans (grnP_set _ _ _ _) (grnP_set _ _ _ _)) (grnP_below (below_drewN (Below.refl _ _) _))) (grnP_set _ _ _ _),(H.out.fault _ _ HP.out).low (below_drewN (Below.refl _ _) (nq+1))⟩
  ·have hpl:(S.size:Int)=placeOf S.size l k:=by unfold placeOf;rw[if_neg (by omega)]
   have HP:=Lib.hid hpl;have ha1:¬ (k:Int)<n:=by omega
   have hm2:k≤1000000:=by omega
   have hn2:n≤1000000:=by omega
   clear h hlen hpl hle;go_enter Tryz.func37,Tryz.ntmps37;go_wp2;go_quiet (fail);go_wp2
   go_end0
   exact⟨rfl,grnP_trans (grnP_trans (grnP_set _ _ _ _) (grnP_set _ _ _ _)) (grnP_below (below_drewN (Below.refl _ _) _)),(H.out.fault1 _ HP.out).low (below_drewN (Below.refl _ _) nq)⟩
 ·clear h hlen hle
  go_enter Tryz.func37,Tryz.ntmps37;go_wp2
  go_end0
  exact⟨rfl,grnP_below (Below.refl _ _),H.out⟩
theorem pis_any (kd:Int) (hkd:kd≠0) (W:ByteArray) (b:Nat) (w:World) (S:ByteArray) (A:Option Addr) (n c:Nat) (l:List Tok) (k o:Nat) (sf:Sf) (gs:Gs) (qq:Nat) (vN vG:Value) (h:DocP b w S A n c l k o sf gs qq vN vG):
  Calls Tryz.prog 36 #[.pointer (some ⟨b,0,none⟩),.int .i64 kd,.string W] w fun e w'=>e= .returned (.bool (isOp l kd W.data.toList k o))∧Below w.heap.size w w':=by
 obtain⟨v,hv⟩:∃ v,v=isOp l kd W.data.toList k o:=⟨_,rfl⟩;rw[←hv];have c1:=h.c1;have c4:=h.c4;have hlen:=h.len;have hle:=h.le;by_cases o0:o=0
 ·subst o0
  have c2:=h.at0;by_cases a:k<n
  ·obtain⟨t,ht⟩:∃ t,l[k]?=some t:=⟨_,List.getElem?_eq_getElem (by omega)⟩
   obtain⟨ad,A',c',rfl,h5,_⟩:=h.row.at_ ht
   obtain⟨x0,x1,x2,x3,x4⟩:=h5;have hbt:(ad.add (k * 5)).block<w.heap.size:=World.block_lt_of_cell? w _ x0;have ha1:(k:Int)<n:=by omega
   have hm2:k≤1000000:=by omega
   have hn2:n≤1000000:=by omega
   have hiv:v=decide (t.kind=kd∧t.word=W.data.toList):=by rw[hv,isOp_zero];unfold isP;rw[nxp_at ht]
   obtain⟨T,hT⟩:∃ T:ByteArray,T=⟨t.word.toArray⟩:=⟨_,rfl⟩;rw[←hT] at x1;by_cases e1:t.kind=kd
   ·rw[e1] at x0
    have b1:(kd==kd)=true:=by simp
    by_cases e2:T=W
    ·have HV:Hid (v=true):=Lib.hid (by rw[hiv];exact decide_eq_true ⟨e1,(bytesP_eq hT).2 e2⟩)
     subst e2;have b2:(T.toList==T.toList)=true:=by simp
     clear h ht hT hv hiv e1 hlen hle hkd x2 x3 x4;go_enter Tryz.func36,Tryz.ntmps36;go_wp2;go_quiet (fail);go_wp2;go_ret;exact⟨by rw[HV.out];try rfl,below_drewN (Below.refl _ _) _⟩
    ·have HV:Hid (v=false):=Lib.hid (by rw[hiv];exact decide_eq_false fun e=>e2 ((bytesP_eq hT).1 e.2))
     have b2:(T.toList==W.toList)=false:=toListP_ne e2;clear h ht hT hv hiv e1 e2 hlen hle hkd x2 x3 x4;go_enter Tryz.func36,Tryz.ntmps36;go_wp2;go_quiet (fail);go_wp2;go_ret;exact⟨by rw[HV.out];try rfl,below_drewN (Below.refl _ _) _⟩
   ·have HV:Hid (v=false):=Lib.hid (by rw[hiv];exact decide_eq_false fun e=>e1 e.1)
    generalize t.kind=x at x0 e1;have b1:(x==kd)=false:=by simpa using e1
    clear h ht hT hv hiv e1 hlen hle hkd x2 x3 x4;go_enter Tryz.func36,Tryz.ntmps36;go_wp2;go_quiet (fail);go_wp2;go_ret;exact⟨by rw[HV.out];try rfl,below_drewN (Below.refl _ _) _⟩
  ·have HV:Hid (v=false):=Lib.hid (by
    rw[hv,isOp_zero];unfold isP;rw[nxp_end (by omega)];exact decide_eq_false fun e=>hkd e.1.symm)
   have ha1:¬ (k:Int)<n:=by omega
   clear h hv hlen hle hkd;go_enter Tryz.func36,Tryz.ntmps36;go_wp2;go_quiet (fail);go_wp2;go_ret;exact⟨by rw[HV.out];try rfl,below_drewN (Below.refl _ _) _⟩
 ·have HV:Hid (v=false):=Lib.hid (by rw[hv];exact isOp_bad l _ _ _ o0)
  obtain⟨b1,b2,b3,b4⟩:=neqP0 o0;clear h o0 hv hlen hle hkd;go_enter Tryz.func36,Tryz.ntmps36;go_wp2;go_quiet (fail);go_wp2;go_ret;exact⟨by rw[HV.out];try rfl,below_drewN (Below.refl _ _) _⟩
theorem softs_snoc (l:List Tok) (sf:Sf) (x:Nat × Int):softsP l none (sf++[x])=softP l (softsP l none sf) x:=by unfold softsP;rw[List.foldl_append];rfl
theorem psoft_any (m:Nat) (er:Int) (he:er≠0) (b:Nat) (w:World) (S:ByteArray) (A:Option Addr) (n c:Nat) (l:List Tok) (k o:Nat) (sf:Sf) (gs:Gs) (qq:Nat) (vN vG:Value) (h:DocP b w S A n c l k o sf gs qq vN vG) (hm:o=0→m<n):
  Calls Tryz.prog 34 #[.pointer (some ⟨b,0,none⟩),.int .i64 m,.int .i64 er] w fun e w'=>e= .returned (.tuple #[])∧StepP b w S A n c l k o (sf++[(m,er)]) gs qq vN vG w':=by
 have H:=Lib.hid h;have c1:=h.c1;have c4:=h.c4;obtain⟨e,p,c5,c6,hs⟩:=h.ey;have f5:=h.fr 5 (by decide);have f6:=h.fr 6 (by decide);have hlen:=h.len
 rcases h.oks with rfl | rfl
 ·have hs:=hs rfl
  have hm:=hm rfl;obtain⟨t,ht⟩:∃ t,l[m]?=some t:=⟨_,List.getElem?_eq_getElem (by omega)⟩;have hpl:(nxp l m).pl=t.pl:=by rw[nxp_at ht]
  obtain⟨ad,A',c',rfl,h5,_⟩:=h.row.at_ ht
  obtain⟨x0,x1,x2,x3,x4⟩:=h5;have hbt:(ad.add (m * 5)).block<w.heap.size:=World.block_lt_of_cell? w _ x0
  have hbn:b≠(ad.add (m * 5)).block:=by
   obtain⟨ad2,e2,hl2,_⟩:=h.row.2 (by omega);injection e2 with e2
   subst e2;rw[block_of_add];omega
  have ha1:(m:Int)<n:=by omega
  have hm2:m≤1000000:=by omega
  have hn2:n≤1000000:=by omega
  obtain⟨pt,hpt⟩:∃ x,x=t.pl:=⟨_,rfl⟩;rw[←hpt] at x4 hpl;have hS:=softs_snoc l sf (m,er);unfold SoftC at hs
  cases hq:softsP l none sf with
  | none=>
    rw[hq] at hs hS;have hs:e=0:=hs;subst hs;have HC:Hid (SoftC l (sf++[(m,er)]) er pt):=Lib.hid (by unfold SoftC;rw[hS];exact⟨rfl,hpl.symm,he⟩);clear h ht hlen hpl hpt hS hq hm;go_enter Tryz.func34,Tryz.ntmps34;go_wp2;go_quiet (fail);go_wp2
    go_end0
    exact⟨rfl,grnP_trans (grnP_trans (grnP_below (below_drewN (Below.refl _ _) _)) (grnP_set _ _ _ _)) (grnP_set _ _ _ _),(H.out.low (below_drewN (Below.refl _ _) _)).noted _ _ _ HC.out⟩
  | some y=>
    rw[hq] at hs hS;obtain⟨he1,hp1,he0⟩:=hs;have b5:(e==0)=false:=by simpa using he0
    by_cases hlt:pt<p
    ·have HC:Hid (SoftC l (sf++[(m,er)]) er pt):=Lib.hid (by
      unfold SoftC;rw[hS,show softP l (some y) (m,er)=some ((nxp l m).pl,er) from by unfold softP;simp only;rw[hpl,if_pos (by omega)]];exact⟨rfl,hpl.symm,he⟩)
     clear h ht hlen hpl hpt hS hq hm he1 hp1 he0;go_enter Tryz.func34,Tryz.ntmps34;go_wp2;go_quiet (fail);go_wp2
     go_end0
     exact⟨rfl,grnP_trans (grnP_trans (grnP_below (below_drewN (Below.refl _ _) _)) (grnP_set _ _ _ _)) (grnP_set _ _ _ _),(H.out.low (below_drewN (Below.refl _ _) _)).noted _ _ _ HC.out⟩
    ·have HC:Hid (softsP l none (sf++[(m,er)])=softsP l none sf):=Lib.hid (by
      rw[hS,hq];unfold softP;simp only;rw[hpl,if_neg (by omega)])
     clear h ht hlen hpl hpt hS hq hm he1 hp1 he0;go_enter Tryz.func34,Tryz.ntmps34;go_wp2;go_quiet (fail);go_wp2
     go_end0
     exact⟨rfl,grnP_below (below_drewN (Below.refl _ _) _),(H.out.low (below_drewN (Below.refl _ _) _)).noting _ fun _=>HC.out⟩
 ·clear h hlen hs hm
  go_enter Tryz.func34,Tryz.ntmps34;go_wp2;refine bodyPost_ret (results_none (by rfl) _ _ _) rfl ?_;exact⟨rfl,grnP_below (Below.refl _ _),H.out.noting _ fun e=>by cases e⟩
section
theorem newP_at (w:World) (T:TypeId) (a:Array Value) (j:Nat) (u:Value) (h:a[j]?=some u):(w.alloc (.cells a T)).cell? ⟨w.heap.size,j,none⟩=some u:=by simp[go_sem,h]
theorem belP_grown {b B:Nat} {w w1:World} (h:w.grownBy w1 (some b)) (hB:B≤b) (hw:B≤w.heap.size):Below B w w1:=
 ⟨h.os,h.tape,h.output,h.size,fun k hk=>h.block k (by omega) (fun e=>by injection e with e;omega)⟩
theorem grnP_setc {b:Nat} {w W:World} (h:w.grownBy W (some b)) {c:Nat} (hc:w.heap.size≤c) (j:Nat) (u:Value):w.grownBy (W.setCell ⟨c,j,none⟩ u) (some b):=
 ⟨h.os,h.tape,h.output,by simpa[World.setCell] using h.size,fun k hk hn=>(Below.heap_setCell _ _ _ _ (by show k≠c;omega)).trans (h.block k hk hn)⟩
theorem one_boxP (w:World) (o:Obj):Below w.heap.size w (w.alloc o):=(Below.refl _ _).alloc (Nat.le_refl _) _
abbrev zeroTk:List Value:=[.int .i64 0,.string ⟨#[]⟩,.int .i64 0,.slice none 0 0,.int .i64 0]
structure BoxP (w:World) (c:Nat) (vs:List Value):Prop where
 at_:∀ j u,vs[j]?=some u→w.cell? ⟨c,j,none⟩=some u
 fr:∀ j,j<vs.length→w.frozen? ⟨c,j,none⟩=false
theorem BoxP.new (w:World) (T:TypeId) (vs:List Value):BoxP (w.alloc (.cells vs.toArray T)) w.heap.size vs:=
 ⟨fun j u h=>newP_at w T vs.toArray j u (by simpa using h),fun j hj=>by simp[go_sem]⟩
theorem BoxP.lt {w:World} {c:Nat} {vs:List Value} (h:BoxP w c vs) (hv:0<vs.length):c<w.heap.size:=World.block_lt_of_cell? w _ (h.at_ 0 vs[0] (List.getElem?_eq_getElem hv))
theorem BoxP.grown {b c:Nat} {w w':World} {vs:List Value} (h:BoxP w c vs) (hv:0<vs.length) (hg:w.grownBy w' (some b)) (hn:c≠b):BoxP w' c vs:=by
 have e:w'.heap[c]?=w.heap[c]?:=hg.block c (h.lt hv) (fun e=>hn (by injection e));exact⟨fun j u hu=>(World.cell?_of_block (a:=⟨c,j,none⟩) e).trans (h.at_ j u hu),fun j hj=>(World.frozen?_of_block (a:=⟨c,j,none⟩) e).trans (h.fr j hj)⟩
theorem BoxP.low {c:Nat} {w w':World} {vs:List Value} (h:BoxP w c vs) (hv:0<vs.length) (hb:Below w.heap.size w w'):BoxP w' c vs:=h.grown hv (b:=c+1) (grnP_below hb) (by omega)
theorem BoxP.other {w:World} {c:Nat} {vs:List Value} (h:BoxP w c vs) {a:Addr} (ha:a.block≠c) (u:Value):BoxP (w.setCell a u) c vs:=
 ⟨fun j v hv=>(World.cell?_setCell_other _ _ _ _ (fun e=>ha (by rw[e]))).trans (h.at_ j v hv),fun j hj=>(World.frozen?_setCell ..).trans (h.fr j hj)⟩
theorem BoxP.drews {w:World} {c:Nat} {vs:List Value} (h:BoxP w c vs) (m:Nat):BoxP (w.drewN m) c vs:=⟨h.at_,h.fr⟩
theorem BoxP.set {w:World} {c:Nat} {vs:List Value} (h:BoxP w c vs) (j:Nat) (hj:j<vs.length) (u:Value):BoxP (w.setCell ⟨c,j,none⟩ u) c (vs.set j u):=by
 refine⟨fun i v hv=>?_,fun i hi=>(World.frozen?_setCell ..).trans (h.fr i (by simpa using hi))⟩;by_cases e:j=i
 ·subst e
  rw[List.getElem?_set_self hj] at hv;injection hv with hv
  subst hv;exact setP_same _ _ _ _ _ (h.at_ j _ (List.getElem?_eq_getElem hj))
 ·rw[List.getElem?_set_ne e] at hv
  rw[setP_ne _ _ _ _ _ e];exact h.at_ i v hv
theorem Rd.backP {B:Nat} {w w':World} {A:Option Addr} {n:Nat} {ps:List Pt} (h:Rd B w' A n ps) (hb:Below B w w'):Rd B w A n ps:=
 ⟨h.1,fun hn=>by obtain⟨ad,e,hr⟩:=h.2 hn;exact⟨ad,e,hr.1,fun j u hu=>(hb.cell (by rw[block_of_add];exact hr.1)).symm.trans (hr.2 j u hu)⟩⟩
theorem BoxP.all2 {w:World} {c:Nat} {v0 v1:Value} (h:BoxP w c [v0,v1]):w.cell? ⟨c,0,none⟩=some v0∧w.cell? ⟨c,1,none⟩=some v1:=
 ⟨h.at_ 0 _ rfl,h.at_ 1 _ rfl⟩
theorem BoxP.fre2 {w:World} {c:Nat} {v0 v1:Value} (h:BoxP w c [v0,v1]):w.frozen? ⟨c,0,none⟩=false∧w.frozen? ⟨c,1,none⟩=false:=
 ⟨h.fr 0 (by simp),h.fr 1 (by simp)⟩
theorem BoxP.all5 {w:World} {c:Nat} {v0 v1 v2 v3 v4:Value} (h:BoxP w c [v0,v1,v2,v3,v4]):w.cell? ⟨c,0,none⟩=some v0∧w.cell? ⟨c,1,none⟩=some v1∧w.cell? ⟨c,2,none⟩=some v2∧w.cell? ⟨c,3,none⟩=some v3∧w.cell? ⟨c,4,none⟩=some v4:=
 ⟨h.at_ 0 _ rfl,h.at_ 1 _ rfl,h.at_ 2 _ rfl,h.at_ 3 _ rfl,h.at_ 4 _ rfl⟩
theorem BoxP.fre5 {w:World} {c:Nat} {v0 v1 v2 v3 v4:Value} (h:BoxP w c [v0,v1,v2,v3,v4]):w.frozen? ⟨c,0,none⟩=false∧w.frozen? ⟨c,1,none⟩=false∧w.frozen? ⟨c,2,none⟩=false∧w.frozen? ⟨c,3,none⟩=false∧w.frozen? ⟨c,4,none⟩=false:=
 ⟨h.fr 0 (by simp),h.fr 1 (by simp),h.fr 2 (by simp),h.fr 3 (by simp),h.fr 4 (by simp)⟩
structure Cyp (b:Nat) (w W:World) (S:ByteArray) (A:Option Addr) (n c:Nat) (l:List Tok) (k o:Nat) (sf:Sf) (gs:Gs) (qq:Nat) (vN vG:Value) (bs:List (Nat × List Value)):Prop where
 lt:b<w.heap.size
 rd:DocP b W S A n c l k o sf gs qq vN vG
 gr:w.grownBy W (some b)
 bx:∀ x∈bs,w.heap.size≤x.1∧0<x.2.length∧BoxP W x.1 x.2
 ap:bs.Pairwise fun x y=>y.1<x.1
 se:∀ x∈bs,vN.ownBlock≠some x.1∧vG.ownBlock≠some x.1
section
variable {b:Nat} {w W W':World} {S:ByteArray} {A:Option Addr} {n c:Nat} {l:List Tok} {k o k' o':Nat} {sf:Sf} {gs:Gs} {qq:Nat} {vN vG:Value} {bs:List (Nat × List Value)}
theorem Cyp.start (h:DocP b w S A n c l k o sf gs qq vN vG):Cyp b w w S A n c l k o sf gs qq vN vG []:=⟨h.lt,h,grnP_below (Below.refl _ _),by simp,List.Pairwise.nil,by simp⟩
theorem Cyp.alloc (h:Cyp b w W S A n c l k o sf gs qq vN vG bs) (T:TypeId) (vs:List Value) (hv:0<vs.length):Cyp b w (W.alloc (.cells vs.toArray T)) S A n c l k o sf gs qq vN vG ((W.heap.size,vs)::bs):=by
 have hb:Below W.heap.size W (W.alloc (.cells vs.toArray T)):=(Below.refl _ _).alloc (Nat.le_refl _) _;refine⟨h.lt,h.rd.low hb,grnP_trans h.gr (grnP_below hb),fun x hx=>?_,List.Pairwise.cons (fun x hx=>(h.bx x hx).2.2.lt (h.bx x hx).2.1) h.ap,fun x hx=>?_⟩
 ·rcases List.mem_cons.1 hx with rfl | hx
  ·exact⟨h.gr.size,hv,BoxP.new _ _ _⟩
  ·obtain⟨h1,h2,h3⟩:=h.bx x hx
   exact⟨h1,h2,h3.low h2 hb⟩
 ·rcases List.mem_cons.1 hx with rfl | hx
  ·exact⟨fun e=>absurd (h.rd.own.above.1 _ e).2 (Nat.lt_irrefl _),fun e=>absurd (h.rd.own.above.2 _ e).2 (Nat.lt_irrefl _)⟩
  ·exact h.se x hx
theorem Cyp.call {sf':Sf} (h:Cyp b w W S A n c l k o sf gs qq vN vG bs) (hs:StepP b W S A n c l k' o' sf' gs qq vN vG W'):Cyp b w W' S A n c l k' o' sf' gs qq vN vG bs:=
 ⟨h.lt,hs.2,grnP_trans h.gr hs.1,fun x hx=>by
  obtain⟨h1,h2,h3⟩:=h.bx x hx;exact⟨h1,h2,h3.grown h2 hs.1 (by have:=h.lt;omega)⟩,h.ap,h.se⟩
theorem Cyp.below (h:Cyp b w W S A n c l k o sf gs qq vN vG bs) (hb:Below W.heap.size W W'):Cyp b w W' S A n c l k o sf gs qq vN vG bs:=h.call ⟨grnP_below hb,h.rd.low hb⟩
theorem Cyp.put (h:Cyp b w W S A n c l k o sf gs qq vN vG bs) (i:Nat) (q:Nat) (vs:List Value) (hi:bs[i]?=some (q,vs)) (j:Nat) (hj:j<vs.length) (u:Value):Cyp b w (W.setCell ⟨q,j,none⟩ u) S A n c l k o sf gs qq vN vG (bs.set i (q,vs.set j u)):=by
 have hm:=List.mem_of_getElem? hi;obtain⟨q1,q2,q3⟩:=h.bx _ hm;dsimp only at q1 q2 q3;have hlt:=h.lt;have hil:=(List.getElem?_eq_some_iff.1 hi).1;have hei:=(List.getElem?_eq_some_iff.1 hi).2;have ap:=h.ap;have hse:=h.se _ hm;refine⟨h.lt,h.rd.other (a:=⟨q,j,none⟩) (by show b<q;omega) hse.1 hse.2 _,grnP_setc h.gr q1 _ _,fun x hx=>?_,?_,fun x hx=>?_⟩
 ·obtain⟨m,hm,e⟩:=List.getElem_of_mem hx
  by_cases c:i=m
  ·subst c
   rw[List.getElem_set_self] at e;subst e;exact⟨q1,by simpa using q2,q3.set j hj u⟩
  ·rw[List.getElem_set_ne c] at e
   rw[List.length_set] at hm;obtain⟨h1,h2,h3⟩:=h.bx x (e ▸ List.getElem_mem hm);refine⟨h1,h2,h3.other (a:=⟨q,j,none⟩) ?_ _⟩;show q≠x.1;rw[List.pairwise_iff_getElem] at ap
   rcases Nat.lt_or_gt_of_ne c with c | c
   ·have:=ap i m hil hm c
    rw[hei,e] at this;dsimp only at this;omega
   ·have:=ap m i hm hil c
    rw[hei,e] at this;dsimp only at this;omega
 ·rw[List.pairwise_iff_getElem] at ap ⊢
  intro i1 i2 h1 h2 h12;rw[List.length_set] at h1 h2;have:=ap i1 i2 h1 h2 h12
  have key:∀ m (hm:m<bs.length) (hm':m<(bs.set i (q,vs.set j u)).length),((bs.set i (q,vs.set j u))[m]).1=(bs[m]).1:=by
   intro m hm hm';by_cases c:i=m
   ·subst c;rw[List.getElem_set_self,hei]
   ·rw[List.getElem_set_ne c]
  rw[key _ h1 _,key _ h2 _];exact this
 ·obtain⟨m,hm,e⟩:=List.getElem_of_mem hx
  by_cases c:i=m
  ·subst c
   rw[List.getElem_set_self] at e;subst e;exact hse
  ·rw[List.getElem_set_ne c] at e
   rw[List.length_set] at hm;exact h.se x (e ▸ List.getElem_mem hm)
theorem Cyp.place (h:Cyp b w W S A n c l k 0 sf gs qq vN vG bs) (j:Nat) (z:Int) (hz:z=j) (hj:j≤n):Cyp b w (W.setCell ⟨b,2,none⟩ (.int .i64 z)) S A n c l j 0 sf gs qq vN vG bs:=
 h.call ⟨grnP_set _ _ _ _,h.rd.place j z hz hj⟩
theorem Cyp.put5 (h:Cyp b w W S A n c l k o sf gs qq vN vG bs) (i q:Nat) (u0 u1 u2 u3 u4:Value) (hi:bs[i]?=some (q,[u0,u1,u2,u3,u4])) (v0 v1 v2 v3 v4:Value):Cyp b w (((((W.setCell ⟨q,0,none⟩ v0).setCell ⟨q,1,none⟩ v1).setCell ⟨q,2,none⟩ v2).setCell ⟨q,3,none⟩ v3).setCell ⟨q,4,none⟩ v4) S A n c l k o sf gs qq vN vG (bs.set i (q,[v0,v1,v2,v3,v4])):=by
 have hl:=(List.getElem?_eq_some_iff.1 hi).1;have e:∀ x:Nat × List Value,(bs.set i x)[i]?=some x:=fun x=>List.getElem?_set_self hl
 have h0:=h.put i q _ hi 0 (by simp) v0;have h1:=h0.put i q _ (e _) 1 (by simp) v1;have h2:=h1.put i q _ (by rw[List.set_set];exact e _) 2 (by simp) v2;have h3:=h2.put i q _ (by rw[List.set_set,List.set_set];exact e _) 3 (by simp) v3;have h4:=h3.put i q _ (by rw[List.set_set,List.set_set,List.set_set];exact e _) 4 (by simp) v4;rw[List.set_set,List.set_set,List.set_set,List.set_set] at h4;exact h4
theorem Cyp.drews (h:Cyp b w W S A n c l k o sf gs qq vN vG bs) (m:Nat):Cyp b w (W.drewN m) S A n c l k o sf gs qq vN vG bs:=h.below ⟨rfl,rfl,rfl,Nat.le_refl _,fun _ _=>rfl⟩
theorem Cyp.drew (h:Cyp b w W S A n c l k o sf gs qq vN vG bs):Cyp b w W.drew S A n c l k o sf gs qq vN vG bs:=h.below ((Below.refl _ _).drew)
theorem Cyp.step (h:Cyp b w W S A n c l k o sf gs qq vN vG bs):StepP b w S A n c l k o sf gs qq vN vG W:=⟨h.gr,h.rd⟩
theorem Cyp.box (h:Cyp b w W S A n c l k o sf gs qq vN vG bs) (i q:Nat) (vs:List Value) (hi:bs[i]?=some (q,vs)):BoxP W q vs:=(h.bx _ (List.mem_of_getElem? hi)).2.2
theorem Cyp.has (h:Cyp b w W S A n c l k o sf gs qq vN vG bs) (i q:Nat) (vs:List Value) (hi:bs[i]?=some (q,vs)):w.heap.size≤q∧q<W.heap.size:=⟨(h.bx _ (List.mem_of_getElem? hi)).1,(h.box i q vs hi).lt (h.bx _ (List.mem_of_getElem? hi)).2.1⟩
theorem Cyp.one {q:Nat} {vs:List Value} (h:Cyp b w W S A n c l k o sf gs qq vN vG ((q,vs)::bs)):b<w.heap.size∧w.heap.size≤q∧q<W.heap.size:=⟨h.lt,h.has 0 q vs rfl⟩
end
theorem Cyp.low {b:Nat} {w W:World} {S:ByteArray} {A:Option Addr} {n c:Nat} {l:List Tok} {k o:Nat} {sf:Sf} {gs:Gs} {qq:Nat} {vN vG:Value} {bs:List (Nat × List Value)} (h:Cyp b w W S A n c l k o sf gs qq vN vG bs):Below b w W:=belP_grown h.gr (Nat.le_refl _) (Nat.le_of_lt h.lt)
theorem DocP.atx {b:Nat} {w:World} {S:ByteArray} {A:Option Addr} {n c:Nat} {l:List Tok} {k o:Nat} {sf:Sf} {gs:Gs} {qq:Nat} {vN vG:Value} (h:DocP b w S A n c l k o sf gs qq vN vG):∃ a:Nat,a≤n∧a≤4000∧(o=0→a=k)∧w.cell? ⟨b,2,none⟩=some (.int .i64 a):=by
 obtain⟨a,p,h2,_,h4,h5,_⟩:=h.ex;exact⟨a,h4,Nat.le_trans h4 h.few,fun e=>(h5 e).1,h2⟩
abbrev FaiP (b:Nat) (S:ByteArray) (A:Option Addr) (n c:Nat) (l:List Tok) (k o:Nat) (sf:Sf) (gs:Gs) (qq:Nat) (vN vG:Value):Prop:=Hid (∀ w',DocP b w' S A n c l k o sf gs qq vN vG→Calls Tryz.prog 37 #[.pointer (some ⟨b,0,none⟩)] w' fun e w2=>e= .returned (.tuple #[])∧StepP b w' S A n c l k 1 sf gs qq vN vG w2)
theorem faiP (b:Nat) (S:ByteArray) (A:Option Addr) (n c:Nat) (l:List Tok) (k o:Nat) (sf:Sf) (gs:Gs) (qq:Nat) (vN vG:Value):FaiP b S A n c l k o sf gs qq vN vG:=Lib.hid fun w' h=>pfail_any b w' S A n c l k o sf gs qq vN vG h
abbrev IsPC (b:Nat) (S:ByteArray) (A:Option Addr) (n c:Nat) (l:List Tok) (kd:Int) (W:ByteArray) (k o:Nat) (sf:Sf) (gs:Gs) (qq:Nat) (vN vG:Value) (v:Bool):Prop:=Hid (∀ w',DocP b w' S A n c l k o sf gs qq vN vG→Calls Tryz.prog 36 #[.pointer (some ⟨b,0,none⟩),.int .i64 kd,.string W] w' fun e w2=>e= .returned (.bool v)∧Below w'.heap.size w' w2)
theorem isPC (b:Nat) (S:ByteArray) (A:Option Addr) (n c:Nat) (l:List Tok) (kd:Int) (hkd:kd≠0) (W:ByteArray) (k o:Nat) (sf:Sf) (gs:Gs) (qq:Nat) (vN vG:Value) {v:Bool} (hv:isOp l kd W.data.toList k o=v):IsPC b S A n c l kd W k o sf gs qq vN vG v:=Lib.hid fun w' h=>by
 rw[←hv];exact pis_any kd hkd W b w' S A n c l k o sf gs qq vN vG h
abbrev SofP (b:Nat) (S:ByteArray) (A:Option Addr) (n c:Nat) (l:List Tok) (m:Nat) (er:Int) (k o:Nat) (sf:Sf) (gs:Gs) (qq:Nat) (vN vG:Value):Prop:=Hid (∀ w',DocP b w' S A n c l k o sf gs qq vN vG→Calls Tryz.prog 34 #[.pointer (some ⟨b,0,none⟩),.int .i64 m,.int .i64 er] w' fun e w2=>e= .returned (.tuple #[])∧StepP b w' S A n c l k o (sf++[(m,er)]) gs qq vN vG w2)
theorem sofP (b:Nat) (S:ByteArray) (A:Option Addr) (n c:Nat) (l:List Tok) (m:Nat) (er:Int) (he:er≠0) (k o:Nat) (hm:o=0→m<n) (sf:Sf) (gs:Gs) (qq:Nat) (vN vG:Value):SofP b S A n c l m er k o sf gs qq vN vG:=Lib.hid fun w' h=>psoft_any m er he b w' S A n c l k o sf gs qq vN vG h hm
def gateR {α:Type} (o k:Nat) (R:Rp α):Rp α:=if o=0 then R else .bad k
def Rp.at {α:Type}:Rp α→Nat | .ok _ j _ _=>j | .bad j=>j
def Rp.err {α:Type}:Rp α→Nat | .ok _ _ _ _=>0 | .bad _=>1
abbrev NeeP (b:Nat) (S:ByteArray) (A:Option Addr) (n c:Nat) (l:List Tok) (kd:Int) (W:ByteArray) (k o k2 o2:Nat) (sf:Sf) (gs:Gs) (qq:Nat) (vN vG:Value):Prop:=Hid (∀ w',DocP b w' S A n c l k o sf gs qq vN vG→Calls Tryz.prog 32 #[.pointer (some ⟨b,0,none⟩),.int .i64 kd,.string W] w' fun e w2=>e= .returned (.tuple #[])∧StepP b w' S A n c l k2 o2 sf gs qq vN vG w2)
theorem pneed_any (kd:Int) (hkd:kd≠0) (W:ByteArray) (b:Nat) (w:World) (S:ByteArray) (A:Option Addr) (n c:Nat) (l:List Tok) (k o:Nat) (sf:Sf) (gs:Gs) (qq:Nat) (vN vG:Value) (h:DocP b w S A n c l k o sf gs qq vN vG):
  Calls Tryz.prog 32 #[.pointer (some ⟨b,0,none⟩),.int .i64 kd,.string W] w fun e w'=>e= .returned (.tuple #[])∧StepP b w S A n c l (if isOp l kd W.data.toList k o=true then k+1 else k) (if isOp l kd W.data.toList k o=true then 0 else 1) sf gs qq vN vG w':=by
 have H:=Lib.hid h;have hbl:=h.lt;have hl:=h.len
 cases hv:isOp l kd W.data.toList k o with
 | true=>
   have K:=isPC b S A n c l kd hkd W k o sf gs qq vN vG hv;obtain⟨rfl,h2,hk⟩:=isOp_lt hkd hv;rw[if_pos rfl,if_pos rfl];have HK:Hid (k+1≤n):=Lib.hid (by omega);have hk2:k≤1000000:=by omega
   clear h hv h2 hkd hk hl;go_enter Tryz.func32,Tryz.ntmps32;go_wp2_with (go_at_call 36;go_must (((with_reducible refine(K.out _ H.out).mono ?_));rintro e w1 ⟨rfl,hb1⟩;have HB1:=Lib.hid hb1;have h1:=H.out.low hb1;have H1:=Lib.hid h1;have x2:=h1.at0;have f2:=h1.fr 2 (by decide);clear hb1 h1))
   go_end0
   exact⟨rfl,grnP_trans (grnP_below HB1.out) (grnP_set _ _ _ _),H1.out.place (k+1) ((k:Int)+1) (by omega) HK.out⟩
 | false=>
   have K:=isPC b S A n c l kd hkd W k o sf gs qq vN vG hv;rw[if_neg (by decide),if_neg (by decide)];have KR:=faiP b S A n c l k o sf gs qq vN vG;clear h hv hl;go_enter Tryz.func32,Tryz.ntmps32;go_wp2_with (first | (go_at_call 36;go_must (((with_reducible refine(K.out _ H.out).mono ?_));rintro e w1 ⟨rfl,hb1⟩;have HB1:=Lib.hid hb1;clear hb1)) | (go_at_call 37;go_must (((with_reducible refine(KR.out _ (H.out.low HB1.out)).mono ?_));rintro e w2 ⟨rfl,hs2⟩;have HS2:=Lib.hid hs2;clear hs2)));refine bodyPost_ret (results_none (by rfl) _ _ _) rfl ?_;exact⟨rfl,grnP_trans (grnP_below HB1.out) HS2.out.1,HS2.out.2⟩
theorem neeP (b:Nat) (S:ByteArray) (A:Option Addr) (n c:Nat) (l:List Tok) (kd:Int) (hkd:kd≠0) (W:ByteArray) (k o:Nat) (sf:Sf) (gs:Gs) (qq:Nat) (vN vG:Value) (ho:o=0∨o=1):NeeP b S A n c l kd W k o (gateR o k (needP l kd W.data.toList k)).at (gateR o k (needP l kd W.data.toList k)).err sf gs qq vN vG:=Lib.hid fun w' h=>by
 have:=pneed_any kd hkd W b w' S A n c l k o sf gs qq vN vG h
 rcases ho with rfl | rfl
 ·rw[isOp_zero] at this
  show Calls _ _ _ _ fun e w2=>e= .returned (.tuple #[])∧StepP b w' S A n c l (needP l kd W.data.toList k).at (needP l kd W.data.toList k).err sf gs qq vN vG w2
  unfold needP
  split
  ·rename_i c;rw[if_pos c,if_pos c] at this;exact this
  ·rename_i c;rw[if_neg c,if_neg c] at this;exact this
 ·rw[isOp_bad _ _ _ _ (by decide)] at this
  exact this
end
theorem ptake_yes (kd:Int) (b:Nat) (w:World) (S:ByteArray) (A:Option Addr) (n c:Nat) (l:List Tok) (k:Nat) (sf:Sf) (gs:Gs) (qq:Nat) (vN vG:Value) (h:DocP b w S A n c l k 0 sf gs qq vN vG) (t:Tok) (ht:l[k]?=some t) (hkd:t.kind=kd):
  Calls Tryz.prog 33 #[.pointer (some ⟨b,0,none⟩),.int .i64 kd] w fun e w2=>∃ A' c',e= .returned (.tuple #[.agg #[.int .i64 t.kind,.string ⟨t.word.toArray⟩,.int .i64 t.n,.slice A' t.parts.length c',.int .i64 t.pl],.int .i64 k])∧StepP b w S A n c l (k+1) 0 sf gs qq vN vG w2∧Rd b w2 A' t.parts.length t.parts:=by
 have H:=Lib.hid (Cyp.start h);have hbl:=h.lt;have hl:=h.len;have hk:=(List.getElem?_eq_some_iff.1 ht).1;obtain⟨ad,A',c',rfl,h5,_⟩:=h.row.at_ ht
 obtain⟨x0,_,_,_,_⟩:=h5;have hbt:(ad.add (k * 5)).block<w.heap.size:=World.block_lt_of_cell? w _ x0;have HT:=Lib.hid ht;have HK:Hid (k+1≤n):=Lib.hid (by omega);have c1:=h.c1;have c2:=h.at0;have c4:=h.c4;have f2:=h.fr 2 (by decide);have hk1:(k:Int)<n:=by omega
 have hk2:k≤1000000:=by omega
 have hn2:n≤1000000:=by omega
 have b1:(t.kind != kd)=false:=by rw[hkd];simp
 have hk3:¬ n≤k:=by omega
 obtain⟨T,hT⟩:∃ T:ByteArray,T=⟨t.word.toArray⟩:=⟨_,rfl⟩;obtain⟨m,hm⟩:∃ m,m=t.parts.length:=⟨_,rfl⟩;rw[←hT,←hm];have HTT:=Lib.hid hT;have HM:=Lib.hid hm;clear ht h hl hk hkd hT hm;go_enter Tryz.func33,Tryz.ntmps33;go_wp2;go_quiet (fail);go_wp2;obtain⟨W1,hW1⟩:∃ W1,W1=((w.alloc (.cells #[.int .i64 0,.string ⟨#[]⟩,.int .i64 0,.slice none 0 0,.int .i64 0] 48)).drewN nq).setCell ⟨b,2,none⟩ (.int .i64 ((k:Int)+1)):=⟨_,rfl⟩;have HC:Hid (Cyp b w W1 S (some ad) n c l (k+1) 0 sf gs qq vN vG [(w.heap.size,zeroTk)]):=Lib.hid (by rw[hW1];exact((H.out.alloc 48 zeroTk (by simp)).drews nq).place (k+1) ((k:Int)+1) (by omega) HK.out);rw[←hW1];clear hW1 c1 c2 c4 f2 x0;obtain⟨ad2,A2,c2,e2,h5,hrd⟩:=HC.out.rd.row.at_ HT.out
 injection e2 with e2
 subst e2;obtain⟨x0,x1,x2,x3,x4⟩:=h5;rw[←HM.out] at hrd x3;rw[←HTT.out] at x1;have HRD:=Lib.hid hrd;have d1:=HC.out.rd.c1;have d2:=HC.out.rd.at0;rw[show (((k+1:Nat):Int))=(k:Int)+1 by omega] at d2;obtain⟨q0,q1,q2⟩:=HC.out.one;obtain⟨g0,g1,g2,g3,g4⟩:=(HC.out.box 0 w.heap.size zeroTk rfl).all5;obtain⟨j0,j1,j2,j3,j4⟩:=(HC.out.box 0 w.heap.size zeroTk rfl).fre5;clear hrd
 go_region
 go_wp2;have HE:=(HC.out.put5 0 w.heap.size _ _ _ _ _ rfl (.int .i64 t.kind) (.string T) (.int .i64 t.n) (.slice A2 m c2) (.int .i64 t.pl)).drew;obtain⟨r0,r1,r2,r3,r4⟩:=(HE.box 0 w.heap.size _ rfl).all5;refine bodyPost_ret (v:= .tuple #[.agg #[.int .i64 t.kind,.string T,.int .i64 t.n,.slice A2 m c2,.int .i64 t.pl],.int .i64 k]) (by simp[results,Tryz.results33,go_sem,r0,r1,r2,r3,r4]) rfl ⟨A2,c2,rfl,HE.step,?_⟩;exact(HRD.out.backP HC.out.low).keep HE.low
theorem ptake_no (kd:Int) (b:Nat) (w:World) (S:ByteArray) (A:Option Addr) (n c:Nat) (l:List Tok) (k o:Nat) (sf:Sf) (gs:Gs) (qq:Nat) (vN vG:Value) (h:DocP b w S A n c l k o sf gs qq vN vG) (hno:o=0→(nxp l k).kind≠kd):
  Calls Tryz.prog 33 #[.pointer (some ⟨b,0,none⟩),.int .i64 kd] w fun e w2=>e= .returned (.tuple #[.agg #[.int .i64 0,.string ⟨#[]⟩,.int .i64 0,.slice none 0 0,.int .i64 0],.int .i64 0])∧StepP b w S A n c l k 1 sf gs qq vN vG w2:=by
 have H:=Lib.hid (Cyp.start h);have hbl:=h.lt;have hl:=h.len;have KR:=faiP b S A n c l k o sf gs qq vN vG;have c1:=h.c1;have c4:=h.c4;by_cases o0:o=0
 ·subst o0
  have c2:=h.at0;by_cases hk:k<n
  ·obtain⟨t,ht⟩:∃ t,l[k]?=some t:=⟨_,List.getElem?_eq_getElem (by omega)⟩
   obtain⟨ad,A',c',rfl,h5,_⟩:=h.row.at_ ht
   obtain⟨x0,_,_,_,_⟩:=h5;have hbt:(ad.add (k * 5)).block<w.heap.size:=World.block_lt_of_cell? w _ x0;have hne:=hno rfl;rw[nxp_at ht] at hne;have b1:(t.kind != kd)=true:=by simpa using hne
   have hk1:(k:Int)<n:=by omega
   have hk3:¬ n≤k:=by omega
   have hn2:n≤1000000:=by omega
   clear ht h hl hno hne;go_enter Tryz.func33,Tryz.ntmps33;go_wp2;go_quiet (fail);have HC:=Lib.hid ((H.out.alloc 48 zeroTk (by simp)).drews nq);go_wp2_with (go_at_call 37;go_must (((with_reducible refine(KR.out _ HC.out.rd).mono ?_));rintro e w2 ⟨rfl,hs2⟩;have HD:=Lib.hid (HC.out.call hs2);obtain⟨q0,q1,q2⟩:=HD.out.one;obtain⟨g0,g1,g2,g3,g4⟩:=(HD.out.box 0 w.heap.size zeroTk rfl).all5;obtain⟨j0,j1,j2,j3,j4⟩:=(HD.out.box 0 w.heap.size zeroTk rfl).fre5;clear hs2));have HE:=HD.out.put5 0 w.heap.size _ _ _ _ _ rfl (.int .i64 0) (.string ⟨#[]⟩) (.int .i64 0) (.slice none 0 0) (.int .i64 0);obtain⟨r0,r1,r2,r3,r4⟩:=(HE.box 0 w.heap.size _ rfl).all5;exact bodyPost_ret (v:= .tuple #[.agg #[.int .i64 0,.string ⟨#[]⟩,.int .i64 0,.slice none 0 0,.int .i64 0],.int .i64 0]) (by simp[results,Tryz.results33,go_sem,r0,r1,r2,r3,r4]) rfl ⟨rfl,HE.step⟩
  ·have hk1:¬ (k:Int)<n:=by omega
   have hk3:n≤k:=by omega
   clear h hl hno;go_enter Tryz.func33,Tryz.ntmps33;go_wp2;go_quiet (fail);have HC:=Lib.hid ((H.out.alloc 48 zeroTk (by simp)).drews nq);go_wp2_with (go_at_call 37;go_must (((with_reducible refine(KR.out _ HC.out.rd).mono ?_));rintro e w2 ⟨rfl,hs2⟩;have HD:=Lib.hid (HC.out.call hs2);obtain⟨q0,q1,q2⟩:=HD.out.one;obtain⟨g0,g1,g2,g3,g4⟩:=(HD.out.box 0 w.heap.size zeroTk rfl).all5;obtain⟨j0,j1,j2,j3,j4⟩:=(HD.out.box 0 w.heap.size zeroTk rfl).fre5;clear hs2));have HE:=HD.out.put5 0 w.heap.size _ _ _ _ _ rfl (.int .i64 0) (.string ⟨#[]⟩) (.int .i64 0) (.slice none 0 0) (.int .i64 0);obtain⟨r0,r1,r2,r3,r4⟩:=(HE.box 0 w.heap.size _ rfl).all5;exact bodyPost_ret (v:= .tuple #[.agg #[.int .i64 0,.string ⟨#[]⟩,.int .i64 0,.slice none 0 0,.int .i64 0],.int .i64 0]) (by simp[results,Tryz.results33,go_sem,r0,r1,r2,r3,r4]) rfl ⟨rfl,HE.step⟩
 ·obtain⟨b1,b2,b3,b4⟩:=neqP0 o0
  clear h hl hno o0;go_enter Tryz.func33,Tryz.ntmps33;go_wp2;go_quiet (fail);have HC:=Lib.hid ((H.out.alloc 48 zeroTk (by simp)).drews nq);go_wp2_with (go_at_call 37;go_must (((with_reducible refine(KR.out _ HC.out.rd).mono ?_));rintro e w2 ⟨rfl,hs2⟩;have HD:=Lib.hid (HC.out.call hs2);obtain⟨q0,q1,q2⟩:=HD.out.one;obtain⟨g0,g1,g2,g3,g4⟩:=(HD.out.box 0 w.heap.size zeroTk rfl).all5;obtain⟨j0,j1,j2,j3,j4⟩:=(HD.out.box 0 w.heap.size zeroTk rfl).fre5;clear hs2));have HE:=HD.out.put5 0 w.heap.size _ _ _ _ _ rfl (.int .i64 0) (.string ⟨#[]⟩) (.int .i64 0) (.slice none 0 0) (.int .i64 0);obtain⟨r0,r1,r2,r3,r4⟩:=(HE.box 0 w.heap.size _ rfl).all5;exact bodyPost_ret (v:= .tuple #[.agg #[.int .i64 0,.string ⟨#[]⟩,.int .i64 0,.slice none 0 0,.int .i64 0],.int .i64 0]) (by simp[results,Tryz.results33,go_sem,r0,r1,r2,r3,r4]) rfl ⟨rfl,HE.step⟩
abbrev TakP (b:Nat) (S:ByteArray) (A:Option Addr) (n c:Nat) (l:List Tok) (kd:Int) (k o:Nat) (R:Rp Tok) (sf:Sf) (gs:Gs) (qq:Nat) (vN vG:Value):Prop:=Hid (∀ w',DocP b w' S A n c l k o sf gs qq vN vG→Calls Tryz.prog 33 #[.pointer (some ⟨b,0,none⟩),.int .i64 kd] w' fun e w2=>
 ∃ (t:Tok) (A':Option Addr) (c' u:Nat),e= .returned (.tuple #[.agg #[.int .i64 t.kind,.string ⟨t.word.toArray⟩,.int .i64 t.n,.slice A' t.parts.length c',.int .i64 t.pl],.int .i64 u])∧StepP b w' S A n c l R.at R.err sf gs qq vN vG w2∧(∀ y j s g,R= .ok y j s g→y=t∧u=k)∧((∀ y j s g,R≠ .ok y j s g)→t=tokP0∧u=0))
theorem takP (b:Nat) (S:ByteArray) (A:Option Addr) (n c:Nat) (l:List Tok) (kd:Int) (hkd:kd≠0) (k o:Nat) (sf:Sf) (gs:Gs) (qq:Nat) (vN vG:Value) {R:Rp Tok} (hR:gateR o k (takeP l kd k)=R):TakP b S A n c l kd k o R sf gs qq vN vG:=Lib.hid fun w' h=>by
 subst hR;by_cases e1:o=0∧(nxp l k).kind=kd
 ·obtain⟨rfl,e1⟩:=e1
  have hk:k<l.length:=nxp_lt (by rw[e1];exact hkd)
  have eR:gateR 0 k (takeP l kd k)= .ok l[k] (k+1) [] []:=by
   show takeP l kd k=_;unfold takeP;rw[if_pos e1,nxp_at (List.getElem?_eq_getElem hk)]
  rw[eR];rw[nxp_at (List.getElem?_eq_getElem hk)] at e1;exact(ptake_yes kd b w' S A n c l k sf gs qq vN vG h l[k] (List.getElem?_eq_getElem hk) e1).mono fun e w2 ⟨A',c',h1,h2,_⟩=>⟨l[k],A',c',k,h1,h2,fun y j s g hy=>by injection hy with hy;exact⟨hy.symm,rfl⟩,fun hn=>absurd rfl (hn _ _ _ _)⟩
 ·have eR:gateR o k (takeP l kd k)= .bad k:=by
   unfold gateR
   split
   ·rename_i o0;unfold takeP;rw[if_neg fun e=>e1 ⟨o0,e⟩]
   ·rfl
  rw[eR];exact(ptake_no kd b w' S A n c l k o sf gs qq vN vG h (fun ho e=>e1 ⟨ho,e⟩)).mono fun e w2 ⟨h1,h2⟩=>⟨tokP0,none,0,0,h1,h2,fun _ _ _ _ hy=>(by cases hy),fun _=>⟨rfl,rfl⟩⟩
theorem Cyp.four0 {b:Nat} {w W:World} {S:ByteArray} {A:Option Addr} {n c:Nat} {l:List Tok} {k:Nat} {sf:Sf} {gs:Gs} {qq:Nat} {vN vG:Value} {bs:List (Nat × List Value)} (h:Cyp b w W S A n c l k 0 sf gs qq vN vG bs):W.cell? ⟨b,1,none⟩=some (.slice A n c)∧W.cell? ⟨b,2,none⟩=some (.int .i64 k)∧W.cell? ⟨b,4,none⟩=some (.int .i64 0)∧W.frozen? ⟨b,2,none⟩=false:=⟨h.rd.c1,h.rd.at0,h.rd.c4,h.rd.fr 2 (by decide)⟩
theorem Rp.bad_ne {α:Type} {k:Nat} (y:α) (j:Nat) (s:Sf) (g:Gs):(Rp.bad k:Rp α)≠ .ok y j s g:=fun e=>by cases e
theorem pname_fell (b:Nat) (w:World) (S:ByteArray) (A:Option Addr) (n c:Nat) (l:List Tok) (k:Nat) (sf:Sf) (gs:Gs) (qq:Nat) (vN vG:Value) (h:DocP b w S A n c l k 1 sf gs qq vN vG):
 Calls Tryz.prog 35 #[.pointer (some ⟨b,0,none⟩)] w fun e w2=>e= .returned (.tuple #[.string ⟨#[]⟩,.int .i64 0])∧StepP b w S A n c l k 1 sf gs qq vN vG w2:=by
 have H:=Lib.hid (Cyp.start h);have hbl:=h.lt;have hl:=h.len;have c1:=h.c1;have c4:=h.c4;have KT:=takP b S A n c l 1 (by decide) k 1 sf gs qq vN vG (R:= .bad k) (rfl);clear h hl;go_enter Tryz.func35,Tryz.ntmps35;go_wp2;go_quiet (fail);have HC:=Lib.hid (H.out.drews nq);go_wp2_with (go_at_call 33;go_must (((with_reducible refine(KT.out _ HC.out.rd).mono ?_));rintro e w2 ⟨t2,A2,c2,u2,rfl,hs2,hy2,hz2⟩;have HD:=Lib.hid (HC.out.call hs2);have HZ:=Lib.hid (hz2 Rp.bad_ne);clear hs2 hy2 hz2));have HE:=HD.out.alloc 48 [.int .i64 t2.kind,.string ⟨t2.word.toArray⟩,.int .i64 t2.n,.slice A2 t2.parts.length c2,.int .i64 t2.pl] (by simp)
 go_ret2
 obtain⟨ht2,hu2⟩:=HZ.out;subst ht2 hu2;exact⟨rfl,HE.step⟩
theorem pname_end (b:Nat) (w:World) (S:ByteArray) (A:Option Addr) (n c:Nat) (l:List Tok) (k:Nat) (sf:Sf) (gs:Gs) (qq:Nat) (vN vG:Value) (h:DocP b w S A n c l k 0 sf gs qq vN vG) (hk:¬ k<n):
 Calls Tryz.prog 35 #[.pointer (some ⟨b,0,none⟩)] w fun e w2=>e= .returned (.tuple #[.string ⟨#[]⟩,.int .i64 0])∧StepP b w S A n c l k 1 sf gs qq vN vG w2:=by
 have H:=Lib.hid (Cyp.start h);have hbl:=h.lt;have hl:=h.len;have c1:=h.c1;have c4:=h.c4;have c2:=h.at0;have hk1:¬ (k:Int)<n:=by omega
 have hdk:decide (k<n)=false:=decide_eq_false hk;have hkk:k≤1000000:=by have:=h.le;omega
 have hn2:n≤1000000:=by omega
 have KT:=takP b S A n c l 1 (by decide) k 0 sf gs qq vN vG (R:= .bad k) (by show takeP l 1 k=_;unfold takeP;rw[nxp_end (by omega),if_neg (by decide)]);clear h hl hk;go_enter Tryz.func35,Tryz.ntmps35;go_wp2;go_quiet (fail);have HC:=Lib.hid (H.out.drews nq);go_wp2_with (go_at_call 33;go_must (((with_reducible refine(KT.out _ HC.out.rd).mono ?_));rintro e w2 ⟨t2,A2,c2,u2,rfl,hs2,hy2,hz2⟩;have HD:=Lib.hid (HC.out.call hs2);have HZ:=Lib.hid (hz2 Rp.bad_ne);clear hs2 hy2 hz2));have HE:=HD.out.alloc 48 [.int .i64 t2.kind,.string ⟨t2.word.toArray⟩,.int .i64 t2.n,.slice A2 t2.parts.length c2,.int .i64 t2.pl] (by simp)
 go_ret2
 obtain⟨ht2,hu2⟩:=HZ.out;subst ht2 hu2;exact⟨rfl,HE.step⟩
theorem pname_kind (b:Nat) (w:World) (S:ByteArray) (A:Option Addr) (n c:Nat) (l:List Tok) (k:Nat) (sf:Sf) (gs:Gs) (qq:Nat) (vN vG:Value) (h:DocP b w S A n c l k 0 sf gs qq vN vG) (hk:k<n) (hkd:¬ (nxp l k).kind=1):
 Calls Tryz.prog 35 #[.pointer (some ⟨b,0,none⟩)] w fun e w2=>e= .returned (.tuple #[.string ⟨#[]⟩,.int .i64 0])∧StepP b w S A n c l k 1 sf gs qq vN vG w2:=by
 have H:=Lib.hid (Cyp.start h);have hbl:=h.lt;have hl:=h.len;have c1:=h.c1;have c4:=h.c4;have KT:=takP b S A n c l 1 (by decide) k 0 sf gs qq vN vG (R:= .bad k) (by show takeP l 1 k=_;unfold takeP;rw[if_neg hkd]);obtain⟨t,ht⟩:∃ t,l[k]?=some t:=⟨_,List.getElem?_eq_getElem (by omega)⟩;have c2:=h.at0;obtain⟨ad,A',c',rfl,h5,_⟩:=h.row.at_ ht
 obtain⟨x0,x1,_,_,_⟩:=h5;have hbt:(ad.add (k * 5)).block<w.heap.size:=World.block_lt_of_cell? w _ x0;have hk1:(k:Int)<n:=by omega
 have hk3:¬ n≤k:=by omega
 have hn2:n≤1000000:=by omega
 have hkk:k≤1000000:=by omega
 rw[nxp_at ht] at hkd;have b1:(t.kind==1)=false:=by simpa using hkd
 clear h hl hk hkd ht x1;go_enter Tryz.func35,Tryz.ntmps35;go_wp2;go_quiet (fail);have HC:=Lib.hid (H.out.drews nq);go_wp2_with (go_at_call 33;go_must (((with_reducible refine(KT.out _ HC.out.rd).mono ?_));rintro e w2 ⟨t2,A2,c2,u2,rfl,hs2,hy2,hz2⟩;have HD:=Lib.hid (HC.out.call hs2);have HZ:=Lib.hid (hz2 Rp.bad_ne);clear hs2 hy2 hz2));have HE:=HD.out.alloc 48 [.int .i64 t2.kind,.string ⟨t2.word.toArray⟩,.int .i64 t2.n,.slice A2 t2.parts.length c2,.int .i64 t2.pl] (by simp)
 go_ret2
 obtain⟨ht2,hu2⟩:=HZ.out;subst ht2 hu2;exact⟨rfl,HE.step⟩
theorem pname_bad (b:Nat) (w:World) (S:ByteArray) (A:Option Addr) (n c:Nat) (l:List Tok) (k:Nat) (sf:Sf) (gs:Gs) (qq:Nat) (vN vG:Value) (h:DocP b w S A n c l k 0 sf gs qq vN vG) (hk:k<n) (hkd:(nxp l k).kind=1) (hv:isName (nxp l k).word=false):
 Calls Tryz.prog 35 #[.pointer (some ⟨b,0,none⟩)] w fun e w2=>e= .returned (.tuple #[.string ⟨#[]⟩,.int .i64 0])∧StepP b w S A n c l k 1 sf gs qq vN vG w2:=by
 have H:=Lib.hid (Cyp.start h);have hbl:=h.lt;have hl:=h.len;have c1:=h.c1;have c4:=h.c4;have KT:=takP b S A n c l 1 (by decide) k 1 sf gs qq vN vG (R:= .bad k) (rfl);have KR:=faiP b S A n c l k 0 sf gs qq vN vG;obtain⟨t,ht⟩:∃ t,l[k]?=some t:=⟨_,List.getElem?_eq_getElem (by omega)⟩;have c2:=h.at0;obtain⟨ad,A',c',rfl,h5,_⟩:=h.row.at_ ht
 obtain⟨x0,x1,_,_,_⟩:=h5;have hbt:(ad.add (k * 5)).block<w.heap.size:=World.block_lt_of_cell? w _ x0;have hk1:(k:Int)<n:=by omega
 have hk3:¬ n≤k:=by omega
 have hn2:n≤1000000:=by omega
 have hkk:k≤1000000:=by omega
 rw[nxp_at ht] at hkd hv;have b1:(t.kind==1)=true:=by simp[hkd]
 have htw:=(h.fit.fit t (List.mem_of_getElem? ht)).word
 have KN:Hid (∀ w',Calls Tryz.prog 26 #[.string ⟨t.word.toArray⟩] w' fun e w2=>e= .returned (.bool false)∧w2=w'):=Lib.hid fun w'=>by
  have:=rname_any ⟨t.word.toArray⟩ (by simp[ByteArray.size];omega) w';rw[show isName (⟨t.word.toArray⟩:ByteArray).data.toList=false from hv] at this;exact this.mono fun _ _ ⟨h1,h2⟩=>⟨h1,h2.symm⟩
 obtain⟨T,hT⟩:∃ T:ByteArray,T=⟨t.word.toArray⟩:=⟨_,rfl⟩;have HTT:=Lib.hid hT;rw[←hT] at x1 KN;clear h hl hk hkd ht hv hT htw;go_enter Tryz.func35,Tryz.ntmps35;go_wp2;go_quiet ((go_at_call 26;with_reducible exact Calls.quiet_of_same (KN.out _)));have HC:=Lib.hid (H.out.drews nq);go_wp2_with (first | (go_at_call 37;go_must (((with_reducible refine(KR.out _ HC.out.rd).mono ?_));rintro e w1 ⟨rfl,hs1⟩;have HF:=Lib.hid (HC.out.call hs1);clear hs1)) | (go_at_call 33;go_must (((with_reducible refine(KT.out _ HF.out.rd).mono ?_));rintro e w2 ⟨t2,A2,c2,u2,rfl,hs2,hy2,hz2⟩;have HD:=Lib.hid (HF.out.call hs2);have HZ:=Lib.hid (hz2 Rp.bad_ne);obtain⟨u3,hu⟩:∃ u3,u3=u2:=⟨_,rfl⟩;clear hs2 hy2 hz2)));have HE:=HD.out.alloc 48 [.int .i64 t2.kind,.string ⟨t2.word.toArray⟩,.int .i64 t2.n,.slice A2 t2.parts.length c2,.int .i64 t2.pl] (by simp)
 go_ret2
 obtain⟨ht2,hu2⟩:=HZ.out;subst ht2 hu2;exact⟨rfl,HE.step⟩
theorem pname_good (b:Nat) (w:World) (S:ByteArray) (A:Option Addr) (n c:Nat) (l:List Tok) (k:Nat) (sf:Sf) (gs:Gs) (qq:Nat) (vN vG:Value) (h:DocP b w S A n c l k 0 sf gs qq vN vG) (hk:k<n) (hkd:(nxp l k).kind=1) (hv:isName (nxp l k).word=true):
 Calls Tryz.prog 35 #[.pointer (some ⟨b,0,none⟩)] w fun e w2=>e= .returned (.tuple #[.string ⟨(nxp l k).word.toArray⟩,.int .i64 k])∧StepP b w S A n c l (k+1) 0 sf gs qq vN vG w2:=by
 have H:=Lib.hid (Cyp.start h);have hbl:=h.lt;have hl:=h.len;have c1:=h.c1;have c4:=h.c4;have KT:=takP b S A n c l 1 (by decide) k 0 sf gs qq vN vG (R:= .ok (nxp l k) (k+1) [] []) (by show takeP l 1 k=_;unfold takeP;rw[if_pos hkd]);obtain⟨t,ht⟩:∃ t,l[k]?=some t:=⟨_,List.getElem?_eq_getElem (by omega)⟩;have c2:=h.at0;have HW:=Lib.hid (nxp_at ht);obtain⟨ad,A',c',rfl,h5,_⟩:=h.row.at_ ht
 obtain⟨x0,x1,_,_,_⟩:=h5;have hbt:(ad.add (k * 5)).block<w.heap.size:=World.block_lt_of_cell? w _ x0;have hk1:(k:Int)<n:=by omega
 have hk3:¬ n≤k:=by omega
 have hn2:n≤1000000:=by omega
 have hkk:k≤1000000:=by omega
 rw[nxp_at ht] at hkd hv;have b1:(t.kind==1)=true:=by simp[hkd]
 have htw:=(h.fit.fit t (List.mem_of_getElem? ht)).word
 have KN:Hid (∀ w',Calls Tryz.prog 26 #[.string ⟨t.word.toArray⟩] w' fun e w2=>e= .returned (.bool true)∧w2=w'):=Lib.hid fun w'=>by
  have:=rname_any ⟨t.word.toArray⟩ (by simp[ByteArray.size];omega) w';rw[show isName (⟨t.word.toArray⟩:ByteArray).data.toList=true from hv] at this;exact this.mono fun _ _ ⟨h1,h2⟩=>⟨h1,h2.symm⟩
 obtain⟨T,hT⟩:∃ T:ByteArray,T=⟨t.word.toArray⟩:=⟨_,rfl⟩;have HTT:=Lib.hid hT;rw[←hT] at x1 KN;clear h hl hk hkd ht hv hT htw;go_enter Tryz.func35,Tryz.ntmps35;go_wp2;go_quiet ((go_at_call 26;with_reducible exact Calls.quiet_of_same (KN.out _)));have HC:=Lib.hid (H.out.drews nq);go_wp2_with (go_at_call 33;go_must (((with_reducible refine(KT.out _ HC.out.rd).mono ?_));rintro e w2 ⟨t2,A2,c2,u2,rfl,hs2,hy2,hz2⟩;have HD:=Lib.hid (HC.out.call hs2);have HZ:=Lib.hid (hy2 _ _ _ _ rfl);clear hs2 hy2 hz2));have HE:=HD.out.alloc 48 [.int .i64 t2.kind,.string ⟨t2.word.toArray⟩,.int .i64 t2.n,.slice A2 t2.parts.length c2,.int .i64 t2.pl] (by simp)
 go_ret2
 obtain⟨ht2,hu2⟩:=HZ.out;subst ht2 hu2;exact⟨by rw[HW.out];rfl,HE.step⟩
abbrev NamP (b:Nat) (S:ByteArray) (A:Option Addr) (n c:Nat) (l:List Tok) (k o:Nat) (R:Rp Bs) (sf:Sf) (gs:Gs) (qq:Nat) (vN vG:Value):Prop:=Hid (∀ w',DocP b w' S A n c l k o sf gs qq vN vG→Calls Tryz.prog 35 #[.pointer (some ⟨b,0,none⟩)] w' fun e w2=>
 ∃ (W:Bs) (u:Nat),e= .returned (.tuple #[.string ⟨W.toArray⟩,.int .i64 u])∧StepP b w' S A n c l R.at R.err sf gs qq vN vG w2∧(∀ y j s g,R= .ok y j s g→y=W∧u=k)∧((∀ y j s g,R≠ .ok y j s g)→W=[]∧u=0))
theorem namP (b:Nat) (S:ByteArray) (A:Option Addr) (n c:Nat) (l:List Tok) (k o:Nat) (sf:Sf) (gs:Gs) (qq:Nat) (vN vG:Value) {R:Rp Bs} (hR:gateR o k (nameP l k)=R):NamP b S A n c l k o R sf gs qq vN vG:=Lib.hid fun w' h=>by
 subst hR
 have hno:∀ (e:Ending) (w2:World),(e= .returned (.tuple #[.string ⟨#[]⟩,.int .i64 0])∧StepP b w' S A n c l k 1 sf gs qq vN vG w2)→∃ (W:Bs) (u:Nat),e= .returned (.tuple #[.string ⟨W.toArray⟩,.int .i64 u])∧StepP b w' S A n c l (Rp.bad k:Rp Bs).at (Rp.bad k:Rp Bs).err sf gs qq vN vG w2∧(∀ y j s g,(Rp.bad k:Rp Bs)= .ok y j s g→y=W∧u=k)∧((∀ y j s g,(Rp.bad k:Rp Bs)≠ .ok y j s g)→W=[]∧u=0):=
  fun e w2 ⟨h1,h2⟩=>⟨[],0,h1,h2,fun _ _ _ _ hy=>(by cases hy),fun _=>⟨rfl,rfl⟩⟩
 have hl:=h.len
 rcases h.oks with rfl | rfl
 ·show Calls _ _ _ _ fun e w2=>∃ (W:Bs) (u:Nat),e= .returned (.tuple #[.string ⟨W.toArray⟩,.int .i64 u])∧StepP b w' S A n c l (nameP l k).at (nameP l k).err sf gs qq vN vG w2∧(∀ y j s g,nameP l k= .ok y j s g→y=W∧u=k)∧((∀ y j s g,nameP l k≠ .ok y j s g)→W=[]∧u=0)
  unfold nameP;by_cases hk:k<n
  ·by_cases hkd:(nxp l k).kind=1
   ·cases hv:isName (nxp l k).word with
    | true=>
      rw[if_pos ⟨hkd,rfl⟩];exact(pname_good b w' S A n c l k sf gs qq vN vG h hk hkd hv).mono fun e w2 ⟨h1,h2⟩=>⟨_,k,h1,h2,fun _ _ _ _ hy=>(by injection hy with hy;exact⟨hy.symm,rfl⟩),fun hn=>absurd rfl (hn _ _ _ _)⟩
    | false=>
      rw[if_neg (fun e=>by cases e.2)];exact(pname_bad b w' S A n c l k sf gs qq vN vG h hk hkd hv).mono hno
   ·rw[if_neg (fun e=>hkd e.1)]
    exact(pname_kind b w' S A n c l k sf gs qq vN vG h hk hkd).mono hno
  ·rw[if_neg (fun e=>by rw[nxp_end (by omega)] at e;exact absurd e.1 (by decide))]
   exact(pname_end b w' S A n c l k sf gs qq vN vG h hk).mono hno
 ·exact(pname_fell b w' S A n c l k sf gs qq vN vG h).mono hno
end Go.Proofs.YtdobinjbejagcaaGreatDoor
