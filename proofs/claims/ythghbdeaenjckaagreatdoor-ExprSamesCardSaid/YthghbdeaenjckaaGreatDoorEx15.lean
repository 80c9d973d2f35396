import Derived.Lib.Bytealg
import Derived.Test.YthghbdeaenjckaaGreatDoorEx8
import Derived.Deep.DeepMust
import Derived.RegionTactic
import Derived.Test.YthghbdeaenjckaaGreatDoorTkN
namespace Go.Proofs.YthghbdeaenjckaaGreatDoor
open Go Go.RowKit
set_option maxRecDepth 100000
set_option maxHeartbeats 2000000
def TkAt (w:World) (a:Addr) (t:Tok) (A:Option Addr) (c:Nat):Prop:=
 w.cell? a=some (.int .i64 t.kind)∧w.cell? ⟨a.block,a.off+1,none⟩=some (.string ⟨t.word.toArray⟩)∧w.cell? ⟨a.block,a.off+2,none⟩=some (.int .i64 t.n)∧w.cell? ⟨a.block,a.off+3,none⟩=some (.slice A t.parts.length c)∧w.cell? ⟨a.block,a.off+4,none⟩=some (.int .i64 t.pl)
def TokRow (B:Nat) (w:World) (A:Option Addr) (l:List Tok):Prop:=∀ (k:Nat) (t:Tok),l[k]?=some t→∃ ad A' c',A=some ad∧ad.block<B∧TkAt w (ad.add (k * 5)) t A' c'
theorem TkAt.keep {w w':World} {a:Addr} {t:Tok} {A:Option Addr} {c:Nat} (h:TkAt w a t A c) (hb:∀ p:Addr,p.block=a.block→w'.cell? p=w.cell? p):TkAt w' a t A c:=by
 obtain⟨a0,a1,a2,a3,a4⟩:=h;exact⟨(hb a rfl).trans a0,(hb ⟨a.block,a.off+1,none⟩ rfl).trans a1,(hb ⟨a.block,a.off+2,none⟩ rfl).trans a2,(hb ⟨a.block,a.off+3,none⟩ rfl).trans a3,(hb ⟨a.block,a.off+4,none⟩ rfl).trans a4⟩
theorem TokRow.keep {B:Nat} {w w':World} {A:Option Addr} {l:List Tok} (h:TokRow B w A l) (hb:∀ p:Addr,p.block<B→w'.cell? p=w.cell? p):TokRow B w' A l:=fun k t ht=>by
 obtain⟨ad,A',c',e,hlt,h5⟩:=h k t ht;exact⟨ad,A',c',e,hlt,h5.keep fun p hp=>hb p (by rw[hp,blockX_add];exact hlt)⟩
structure RdrX (b:Nat) (w:World) (A:Option Addr) (n c:Nat) (l:List Tok) (k o:Nat):Prop where
 c0:w.cell? ⟨b,0,none⟩=some (.slice A n c)
 c1:w.cell? ⟨b,1,none⟩=some (.int .i64 k)
 c2:w.cell? ⟨b,2,none⟩=some (.int .i64 o)
 f1:w.frozen? ⟨b,1,none⟩=false
 f2:w.frozen? ⟨b,2,none⟩=false
 row:TokRow b w A l
 len:n=l.length
theorem RdrX.lt {b:Nat} {w:World} {A:Option Addr} {n c:Nat} {l:List Tok} {k o:Nat} (h:RdrX b w A n c l k o):b<w.heap.size:=World.block_lt_of_cell? w _ h.c0
theorem RdrX.next {b:Nat} {w w':World} {A:Option Addr} {n c:Nat} {l:List Tok} {k o:Nat} (h:RdrX b w A n c l k o) (hb:Below w.heap.size w w'):RdrX b w' A n c l k o:=
 ⟨(hb.cell (p:=⟨b,0,none⟩) h.lt).trans h.c0,(hb.cell (p:=⟨b,1,none⟩) h.lt).trans h.c1,(hb.cell (p:=⟨b,2,none⟩) h.lt).trans h.c2,(hb.frozen (p:=⟨b,1,none⟩) h.lt).trans h.f1,(hb.frozen (p:=⟨b,2,none⟩) h.lt).trans h.f2,
   h.row.keep fun _ hp=>hb.cell (Nat.lt_trans hp h.lt),h.len⟩
theorem RdrX.place {b:Nat} {w:World} {A:Option Addr} {n c:Nat} {l:List Tok} {k o:Nat} (h:RdrX b w A n c l k o) (j:Nat):RdrX b (w.setCell ⟨b,1,none⟩ (.int .i64 j)) A n c l j o:=by
 have hs:(w.cell? ⟨b,1,none⟩).isSome=true:=by rw[h.c1];rfl
 refine⟨?_,?_,?_,?_,?_,h.row.keep fun p hp=>World.cell?_of_block (Below.heap_setCell _ _ _ _ (by show p.block≠b;omega)),h.len⟩
 ·rw[World.cell?_setCell_other _ _ _ _ (by simp)];exact h.c0
 ·exact World.cell?_setCell_same' _ _ _ hs
 ·rw[World.cell?_setCell_other _ _ _ _ (by simp)];exact h.c2
 ·rw[World.frozen?_setCell];exact h.f1
 ·rw[World.frozen?_setCell];exact h.f2
theorem RdrX.fault {b:Nat} {w:World} {A:Option Addr} {n c:Nat} {l:List Tok} {k o:Nat} (h:RdrX b w A n c l k o) (j:Nat):RdrX b (w.setCell ⟨b,2,none⟩ (.int .i64 j)) A n c l k j:=by
 have hs:(w.cell? ⟨b,2,none⟩).isSome=true:=by rw[h.c2];rfl
 refine⟨?_,?_,?_,?_,?_,h.row.keep fun p hp=>World.cell?_of_block (Below.heap_setCell _ _ _ _ (by show p.block≠b;omega)),h.len⟩
 ·rw[World.cell?_setCell_other _ _ _ _ (by simp)];exact h.c0
 ·rw[World.cell?_setCell_other _ _ _ _ (by simp)];exact h.c1
 ·exact World.cell?_setCell_same' _ _ _ hs
 ·rw[World.frozen?_setCell];exact h.f1
 ·rw[World.frozen?_setCell];exact h.f2
def sgX (l:List Tok) (k o:Nat):Bs:=if o=0 then sg l k else []
theorem nilB:(⟨([]:Bs).toArray⟩:ByteArray)=⟨#[]⟩:=rfl
theorem signX_any (b:Nat) (w:World) (A:Option Addr) (n c:Nat) (l:List Tok) (k o:Nat) (h:RdrX b w A n c l k o) (ho:o≤100):
  Calls Tryz.prog 53 #[.pointer (some ⟨b,0,none⟩)] w fun e w'=>e= .returned (.string ⟨(sgX l k o).toArray⟩)∧Below w.heap.size w w':=by
 obtain⟨S,hS⟩:∃ S:ByteArray,S=⟨(sgX l k o).toArray⟩:=⟨_,rfl⟩;rw[←hS];unfold sgX at hS;obtain⟨c0,c1,c2,_,_,row,len⟩:=h
 suffices hs:Calls Tryz.prog 53 #[.pointer (some ⟨b,0,none⟩)] w fun e w'=>e= .returned (.string S)∧Hid (Below w.heap.size w w') from hs.mono fun e w' ⟨a,hm⟩=>⟨a,hm.out⟩
 by_cases o0:o=0
 ·subst o0
  rw[if_pos rfl] at hS;by_cases a:k<n
  ·have hkl:k<l.length:=by omega
   obtain⟨ad,A',c',rfl,_,h5⟩:=row k l[k] (List.getElem?_eq_getElem hkl);unfold sg at hS;rw[List.getElem?_eq_getElem hkl] at hS;dsimp only at hS;have d0:=h5.1;have d1:=h5.2.1;clear h5;have b1:decide ((k:Int)<(n:Int))=true:=by simp;omega
   generalize l[k]=t at hS d0 d1;by_cases e:t.kind=4
   ·rw[if_pos e] at hS
    rw[←hS] at d1;rw[e] at d0;clear hS row len e hkl;go_enter Tryz.func53,Tryz.ntmps53;go_wp2;go_quiet (fail);go_wp2;go_quiet (fail);go_wp2;go_ret;exact⟨rfl,Lib.hid (below_drewN (below_drewN (Below.refl _ _) _) _)⟩
   ·rw[if_neg e,nilB] at hS
    subst hS;obtain⟨K,hK⟩:∃ K:Int,K=t.kind:=⟨_,rfl⟩;rw[←hK] at d0 e;have t1:(K==4)=false:=by simpa using e
    clear row len e hkl hK;go_enter Tryz.func53,Tryz.ntmps53;go_wp2;go_quiet (fail);go_wp2;go_ret;exact⟨rfl,Lib.hid (below_drewN (Below.refl _ _) _)⟩
  ·rw[sg_past (by omega),nilB] at hS
   subst hS;have b1:decide ((k:Int)<(n:Int))=false:=by simp;omega
   have b2:decide (k<n)=false:=by simp;omega
   clear row len;go_enter Tryz.func53,Tryz.ntmps53;go_wp2;go_quiet (fail);go_wp2;go_ret;exact⟨rfl,Lib.hid (below_drewN (Below.refl _ _) _)⟩
 ·rw[if_neg o0,nilB] at hS
  subst hS;have b0:((o:Int)==0)=false:=by simp;omega
  have b0':(o==0)=false:=by simp;omega
  clear o0 row len;go_enter Tryz.func53,Tryz.ntmps53;go_wp2;go_quiet (fail);go_wp2;go_ret;exact⟨rfl,Lib.hid (below_drewN (Below.refl _ _) _)⟩
theorem failX_any (er:Nat) (b:Nat) (w:World) (A:Option Addr) (n c:Nat) (l:List Tok) (k o:Nat) (h:RdrX b w A n c l k o) (ho:o≤100):
  Calls Tryz.prog 54 #[.pointer (some ⟨b,0,none⟩),.int .i64 er] w fun e w'=>e= .returned (.tuple #[])∧RdrX b w' A n c l k (if o=0 then er else o)∧w.grownBy w' (some b):=by
 have H:=Lib.hid h;obtain⟨c0,c1,c2,_,f2,_,_⟩:=h;by_cases o0:o=0
 ·subst o0
  rw[if_pos rfl];go_enter Tryz.func54,Tryz.ntmps54;go_wp2
  go_end0
  exact⟨rfl,H.out.fault er,⟨rfl,rfl,rfl,by simp[World.setCell],fun k _ hn=>Below.heap_setCell _ _ _ _ (by intro e;exact hn (by rw[e]))⟩⟩
 ·rw[if_neg o0]
  have b0:((o:Int)==0)=false:=by simp;omega
  have b0':(o==0)=false:=by simp;omega
  clear o0;go_enter Tryz.func54,Tryz.ntmps54;go_wp2
  go_end0
  exact⟨rfl,H.out,⟨rfl,rfl,rfl,Nat.le_refl _,fun _ _ _=>rfl⟩⟩
def Md.sz:Md→Nat
 | .one=>0
 | .some _=>0
 | .loop _ x=>sizeX x
def Md.nz:Md→Nat
 | .one=>0
 | .some _=>0
 | .loop _ x=>nmX x
theorem size_num (n:Int):sizeX (exNum n)=1∧nmX (exNum n)=0:=by simp[exNum,sizeX,sizeXL,nmX,nmXL]
theorem size_var (w:Bs):sizeX (exVar w)=1∧nmX (exVar w)=w.length:=by simp[exVar,sizeX,sizeXL,nmX,nmXL]
theorem size_neg (x:Ex):sizeX (exNeg x)=1+sizeX x∧nmX (exNeg x)=nmX x:=by simp[exNeg,sizeX,sizeXL,nmX,nmXL]
theorem size_not (x:Ex):sizeX (exNot x)=1+sizeX x∧nmX (exNot x)=nmX x:=by simp[exNot,sizeX,sizeXL,nmX,nmXL]
theorem size_bin (op:Bs) (x y:Ex):sizeX (exBin op x y)=1+(sizeX x+sizeX y)∧nmX (exBin op x y)=nmX x+nmX y:=by simp[exBin,sizeX,sizeXL,nmX,nmXL]
theorem RdE.sized {l:List Tok} (hM:∀ t∈l,t.word.length≤200) {m:Md} {i d:Nat} {r:Rs} (h:RdE l m i d r):∀ y j,r= .ok y j→m.pos→i≤l.length→sizeX y+i≤m.sz+j∧nmX y+200 * i≤m.nz+200 * j:=by
 have lt:∀ {i w},sg l i=w→w≠[]→i<l.length:=fun h hw=>sg_lt (by rw[h];exact hw)
 induction h with
 | deep=>intro y j e;cases e
 | par h1 h2 h3 h4 ih=>
   intro y j e _ hi
   cases e
   have a1:=lt h1 (by decide);have:=ih _ _ rfl (Nat.le_refl 1) (by omega);simp only[Md.sz,Md.nz] at this ⊢;omega
 | parOpen=>intro y j e;cases e
 | parBad=>intro y j e;cases e
 | neg h1 h2 h3 ih=>
   intro y j e _ hi
   cases e
   have a1:=lt h1 (by decide);have:=ih _ _ rfl trivial (by omega);rw[(size_neg _).1,(size_neg _).2];simp only[Md.sz,Md.nz] at this ⊢;omega
 | not h1 h2 h3 ih=>
   intro y j e _ hi
   cases e
   have a1:=lt h1 (by decide);have:=ih _ _ rfl trivial (by omega);rw[(size_not _).1,(size_not _).2];simp only[Md.sz,Md.nz] at this ⊢;omega
 | unBad=>intro y j e;cases e
 | num h1 h2=>
   intro y j e _ hi
   cases e
   rw[(size_num _).1,(size_num _).2];simp only[Md.sz,Md.nz];omega
 | var h1 h2=>
   intro y j e _ hi
   cases e
   have:=hM _ (List.mem_of_getElem? h1);rw[(size_var _).1,(size_var _).2];simp only[Md.sz,Md.nz];omega
 | none=>intro y j e;cases e
 | some h1 h2 ih1 ih2=>
   intro y j e hp hi;have a:=ih1 _ _ rfl trivial hi;have b:=ih2 _ _ e hp (h1.within trivial hi).2;simp only[Md.sz,Md.nz] at a b ⊢;omega
 | someBad=>intro y j e;cases e
 | stop=>
   intro y j e _ _
   cases e
   simp only[Md.sz,Md.nz];omega
 | opDeep=>intro y j e;cases e
 | @op m x i d y k r h1 h2 h3 h4 ih3 ih4=>
   intro y' j e hp hi;have a1:=strong_sg_lt hp h1;have hpos:(Md.some (strong (sg l i)+1)).pos:=by show 1≤strong (sg l i)+1;omega
   have a:=ih3 _ _ rfl hpos (by omega);have b:=ih4 _ _ e hp (h3.within hpos (by omega)).2;simp only[Md.sz,Md.nz] at a b ⊢;rw[(size_bin _ _ _).1,(size_bin _ _ _).2] at b;omega
 | opBad=>intro y j e;cases e
theorem RdE.small {l:List Tok} (hM:∀ t∈l,t.word.length≤200) {m i d j:Nat} {y:Ex} (hm:1≤m) (hi:i≤l.length) (h:RdE l (.some m) i d (.ok y j)):sizeX y≤l.length∧nmX y≤200 * l.length:=by
 have a:=h.sized hM y j rfl hm hi;have b:=(h.within hm hi).2;simp only[Md.sz,Md.nz] at a;omega
theorem cstrong_any (S:ByteArray) (w:World):Calls Tryz.prog 41 #[.string S] w fun e w'=>e= .returned (.int .i64 (strong S.data.toList))∧w=w':=by
 obtain⟨v,hv⟩:∃ v:Int,v=strong S.data.toList:=⟨_,rfl⟩;rw[←hv];by_cases h0:S.data.toList=[124,124]
 ·have b0:=isOp_eq S _ _ (decide_eq_true h0)
  have HX:Hid (v=1):=Lib.hid (by rw[hv,h0];decide);clear hv h0;go_enter Tryz.func41,Tryz.ntmps41;go_wp2;go_ret;exact⟨ret_int HX.out.symm,rfl⟩
 have b0:=isOp_eq S _ _ (decide_eq_false h0);by_cases h1:S.data.toList=[38,38]
 ·have b1:=isOp_eq S _ _ (decide_eq_true h1)
  have HX:Hid (v=2):=Lib.hid (by rw[hv,h1];decide);clear hv h0 h1;go_enter Tryz.func41,Tryz.ntmps41;go_wp2;go_ret;exact⟨ret_int HX.out.symm,rfl⟩
 have b1:=isOp_eq S _ _ (decide_eq_false h1);by_cases h2:S.data.toList=[61,61]
 ·have b2:=isOp_eq S _ _ (decide_eq_true h2)
  have HX:Hid (v=3):=Lib.hid (by rw[hv,h2];decide);clear hv h0 h1 h2;go_enter Tryz.func41,Tryz.ntmps41;go_wp2;go_ret;exact⟨ret_int HX.out.symm,rfl⟩
 have b2:=isOp_eq S _ _ (decide_eq_false h2);by_cases h3:S.data.toList=[33,61]
 ·have b3:=isOp_eq S _ _ (decide_eq_true h3)
  have HX:Hid (v=3):=Lib.hid (by rw[hv,h3];decide);clear hv h0 h1 h2 h3;go_enter Tryz.func41,Tryz.ntmps41;go_wp2;go_ret;exact⟨ret_int HX.out.symm,rfl⟩
 have b3:=isOp_eq S _ _ (decide_eq_false h3);by_cases h4:S.data.toList=[60]
 ·have b4:=isOp_eq S _ _ (decide_eq_true h4)
  have HX:Hid (v=4):=Lib.hid (by rw[hv,h4];decide);clear hv h0 h1 h2 h3 h4;go_enter Tryz.func41,Tryz.ntmps41;go_wp2;go_ret;exact⟨ret_int HX.out.symm,rfl⟩
 have b4:=isOp_eq S _ _ (decide_eq_false h4);by_cases h5:S.data.toList=[62]
 ·have b5:=isOp_eq S _ _ (decide_eq_true h5)
  have HX:Hid (v=4):=Lib.hid (by rw[hv,h5];decide);clear hv h0 h1 h2 h3 h4 h5;go_enter Tryz.func41,Tryz.ntmps41;go_wp2;go_ret;exact⟨ret_int HX.out.symm,rfl⟩
 have b5:=isOp_eq S _ _ (decide_eq_false h5);by_cases h6:S.data.toList=[60,61]
 ·have b6:=isOp_eq S _ _ (decide_eq_true h6)
  have HX:Hid (v=4):=Lib.hid (by rw[hv,h6];decide);clear hv h0 h1 h2 h3 h4 h5 h6;go_enter Tryz.func41,Tryz.ntmps41;go_wp2;go_ret;exact⟨ret_int HX.out.symm,rfl⟩
 have b6:=isOp_eq S _ _ (decide_eq_false h6);by_cases h7:S.data.toList=[62,61]
 ·have b7:=isOp_eq S _ _ (decide_eq_true h7)
  have HX:Hid (v=4):=Lib.hid (by rw[hv,h7];decide);clear hv h0 h1 h2 h3 h4 h5 h6 h7;go_enter Tryz.func41,Tryz.ntmps41;go_wp2;go_ret;exact⟨ret_int HX.out.symm,rfl⟩
 have b7:=isOp_eq S _ _ (decide_eq_false h7);by_cases h8:S.data.toList=[43]
 ·have b8:=isOp_eq S _ _ (decide_eq_true h8)
  have HX:Hid (v=5):=Lib.hid (by rw[hv,h8];decide);clear hv h0 h1 h2 h3 h4 h5 h6 h7 h8;go_enter Tryz.func41,Tryz.ntmps41;go_wp2;go_ret;exact⟨ret_int HX.out.symm,rfl⟩
 have b8:=isOp_eq S _ _ (decide_eq_false h8);by_cases h9:S.data.toList=[45]
 ·have b9:=isOp_eq S _ _ (decide_eq_true h9)
  have HX:Hid (v=5):=Lib.hid (by rw[hv,h9];decide);clear hv h0 h1 h2 h3 h4 h5 h6 h7 h8 h9;go_enter Tryz.func41,Tryz.ntmps41;go_wp2;go_ret;exact⟨ret_int HX.out.symm,rfl⟩
 have b9:=isOp_eq S _ _ (decide_eq_false h9);by_cases h10:S.data.toList=[42]
 ·have b10:=isOp_eq S _ _ (decide_eq_true h10)
  have HX:Hid (v=6):=Lib.hid (by rw[hv,h10];decide);clear hv h0 h1 h2 h3 h4 h5 h6 h7 h8 h9 h10;go_enter Tryz.func41,Tryz.ntmps41;go_wp2;go_ret;exact⟨ret_int HX.out.symm,rfl⟩
 have b10:=isOp_eq S _ _ (decide_eq_false h10);by_cases h11:S.data.toList=[47]
 ·have b11:=isOp_eq S _ _ (decide_eq_true h11)
  have HX:Hid (v=6):=Lib.hid (by rw[hv,h11];decide);clear hv h0 h1 h2 h3 h4 h5 h6 h7 h8 h9 h10 h11;go_enter Tryz.func41,Tryz.ntmps41;go_wp2;go_ret;exact⟨ret_int HX.out.symm,rfl⟩
 have b11:=isOp_eq S _ _ (decide_eq_false h11);by_cases h12:S.data.toList=[37]
 ·have b12:=isOp_eq S _ _ (decide_eq_true h12)
  have HX:Hid (v=6):=Lib.hid (by rw[hv,h12];decide);clear hv h0 h1 h2 h3 h4 h5 h6 h7 h8 h9 h10 h11 h12;go_enter Tryz.func41,Tryz.ntmps41;go_wp2;go_ret;exact⟨ret_int HX.out.symm,rfl⟩
 have b12:=isOp_eq S _ _ (decide_eq_false h12);have HX:Hid (v=0):=Lib.hid (by rw[hv];unfold strong;simp[h0,h1,h2,h3,h4,h5,h6,h7,h8,h9,h10,h11,h12]);clear hv h0 h1 h2 h3 h4 h5 h6 h7 h8 h9 h10 h11 h12;go_enter Tryz.func41,Tryz.ntmps41;go_wp2;go_ret;exact⟨ret_int HX.out.symm,rfl⟩
theorem grown_trans {b:Nat} {w w1 w2:World} (h:w.grownBy w1 (some b)) (k:w1.grownBy w2 (some b)):w.grownBy w2 (some b):=
 ⟨k.os.trans h.os,k.tape.trans h.tape,k.output.trans h.output,Nat.le_trans h.size k.size,fun i hi hn=>(k.block i (Nat.lt_of_lt_of_le hi h.size) hn).trans (h.block i hi hn)⟩
theorem grown_below {b:Nat} {w w1:World} (h:Below w.heap.size w w1):w.grownBy w1 (some b):=⟨h.os,h.tape,h.output,h.size,fun k hk _=>h.block k hk⟩
theorem grown_set (b o:Nat) (w:World) (u:Value):w.grownBy (w.setCell ⟨b,o,none⟩ u) (some b):=⟨rfl,rfl,rfl,by simp[World.setCell],fun k _ hn=>Below.heap_setCell _ _ _ _ (fun e=>hn (by rw[e]))⟩
theorem grown_setc {b:Nat} {w W:World} (h:w.grownBy W (some b)) {c:Nat} (hc:w.heap.size≤c) (j:Nat) (u:Value):w.grownBy (W.setCell ⟨c,j,none⟩ u) (some b):=
 ⟨h.os,h.tape,h.output,by simpa[World.setCell] using h.size,fun k hk hn=>(Below.heap_setCell _ _ _ _ (by show k≠c;omega)).trans (h.block k hk hn)⟩
theorem grown_put5 {b:Nat} {w W:World} (h:w.grownBy W (some b)) {c:Nat} (hc:w.heap.size≤c) (v0 v1 v2 v3 v4:Value):w.grownBy (put5 W c v0 v1 v2 v3 v4) (some b):=
 grown_setc (grown_setc (grown_setc (grown_setc (grown_setc h hc _ _) hc _ _) hc _ _) hc _ _) hc _ _
theorem grown_alloc {b:Nat} {w W:World} (h:w.grownBy W (some b)) (o:Obj):w.grownBy (W.alloc o) (some b):=grown_trans h (grown_below ((Below.refl _ _).alloc (Nat.le_refl _) _))
theorem below_of_grown {b B:Nat} {w w1:World} (h:w.grownBy w1 (some b)) (hB:B≤b) (hw:B≤w.heap.size):Below B w w1:=
 ⟨h.os,h.tape,h.output,h.size,fun k hk=>h.block k (by omega) (fun e=>by injection e with e;omega)⟩
structure Box5 (w:World) (c:Nat) (v0 v1 v2 v3 v4:Value):Prop where
 c0:w.cell? ⟨c,0,none⟩=some v0
 c1:w.cell? ⟨c,1,none⟩=some v1
 c2:w.cell? ⟨c,2,none⟩=some v2
 c3:w.cell? ⟨c,3,none⟩=some v3
 c4:w.cell? ⟨c,4,none⟩=some v4
 fr:∀ q,q<5→w.frozen? ⟨c,q,none⟩=false
theorem Box5.freed {w:World} {c:Nat} {v0 v1 v2 v3 v4:Value} (h:Box5 w c v0 v1 v2 v3 v4):
  w.frozen? ⟨c,0,none⟩=false∧w.frozen? ⟨c,1,none⟩=false∧w.frozen? ⟨c,2,none⟩=false∧w.frozen? ⟨c,3,none⟩=false∧w.frozen? ⟨c,4,none⟩=false:=
 ⟨h.fr 0 (by omega),h.fr 1 (by omega),h.fr 2 (by omega),h.fr 3 (by omega),h.fr 4 (by omega)⟩
theorem set_same (w:World) (c j:Nat) (u u':Value) (h:w.cell? ⟨c,j,none⟩=some u):(w.setCell ⟨c,j,none⟩ u').cell? ⟨c,j,none⟩=some u':=World.cell?_setCell_same _ _ _ h
theorem set_ne (w:World) (c j i:Nat) (u':Value) (h:j≠i):(w.setCell ⟨c,j,none⟩ u').cell? ⟨c,i,none⟩=w.cell? ⟨c,i,none⟩:=World.cell?_setCell_other _ _ _ _ (fun e=>by injection e with _ e;omega)
theorem Box5.put {w:World} {c:Nat} {u0 u1 u2 u3 u4:Value} (h:Box5 w c u0 u1 u2 u3 u4) (v0 v1 v2 v3 v4:Value):Box5 (put5 w c v0 v1 v2 v3 v4) c v0 v1 v2 v3 v4:=by
 unfold put5;refine⟨?_,?_,?_,?_,?_,fun q hq=>?_⟩
 ·repeat rw[set_ne _ _ _ _ _ (by omega)]
  exact set_same _ _ _ _ _ h.c0
 ·repeat rw[set_ne _ _ _ _ _ (by omega)]
  exact set_same _ _ _ _ _ (by(repeat rw[set_ne _ _ _ _ _ (by omega)]);exact h.c1)
 ·repeat rw[set_ne _ _ _ _ _ (by omega)]
  exact set_same _ _ _ _ _ (by(repeat rw[set_ne _ _ _ _ _ (by omega)]);exact h.c2)
 ·repeat rw[set_ne _ _ _ _ _ (by omega)]
  exact set_same _ _ _ _ _ (by(repeat rw[set_ne _ _ _ _ _ (by omega)]);exact h.c3)
 ·exact set_same _ _ _ _ _ (by(repeat rw[set_ne _ _ _ _ _ (by omega)]);exact h.c4)
 ·simp only[World.frozen?_setCell];exact h.fr q hq
theorem Box5.grown {b c:Nat} {w w':World} {v0 v1 v2 v3 v4:Value} (h:Box5 w c v0 v1 v2 v3 v4) (hg:w.grownBy w' (some b)) (hn:c≠b):Box5 w' c v0 v1 v2 v3 v4:=by
 have hc:c<w.heap.size:=World.block_lt_of_cell? w _ h.c0;have e:w'.heap[c]?=w.heap[c]?:=hg.block c hc (fun e=>hn (by injection e));have k:∀ j,w'.cell? ⟨c,j,none⟩=w.cell? ⟨c,j,none⟩:=fun j=>World.cell?_of_block e
 exact⟨(k _).trans h.c0,(k _).trans h.c1,(k _).trans h.c2,(k _).trans h.c3,(k _).trans h.c4,fun q hq=>(World.frozen?_of_block e).trans (h.fr q hq)⟩
theorem Box5.low {c:Nat} {w w':World} {v0 v1 v2 v3 v4:Value} (h:Box5 w c v0 v1 v2 v3 v4) (hb:Below w.heap.size w w'):Box5 w' c v0 v1 v2 v3 v4:=h.grown (b:=c+1) (grown_below hb) (by omega)
theorem Box5.other {w:World} {c:Nat} {v0 v1 v2 v3 v4:Value} (h:Box5 w c v0 v1 v2 v3 v4) {a:Addr} (ha:a.block≠c) (u:Value):Box5 (w.setCell a u) c v0 v1 v2 v3 v4:=by
 have k:∀ j,(w.setCell a u).cell? ⟨c,j,none⟩=w.cell? ⟨c,j,none⟩:=fun j=>World.cell?_setCell_other _ _ _ _ (fun e=>ha (by rw[e]))
 exact⟨(k _).trans h.c0,(k _).trans h.c1,(k _).trans h.c2,(k _).trans h.c3,(k _).trans h.c4,fun q hq=>(World.frozen?_setCell ..).trans (h.fr q hq)⟩
theorem Box5.drews {w:World} {c:Nat} {v0 v1 v2 v3 v4:Value} (h:Box5 w c v0 v1 v2 v3 v4) (m:Nat):Box5 (w.drewN m) c v0 v1 v2 v3 v4:=⟨h.c0,h.c1,h.c2,h.c3,h.c4,h.fr⟩
theorem Box5.new (w:World) (T:TypeId) (v0 v1 v2 v3 v4:Value):Box5 (w.alloc (.cells #[v0,v1,v2,v3,v4] T)) w.heap.size v0 v1 v2 v3 v4:=by
 have k:∀ j u,[v0,v1,v2,v3,v4][j]?=some u→(w.alloc (.cells #[v0,v1,v2,v3,v4] T)).cell? ⟨w.heap.size,j,none⟩=some u:=fun j u h=>by
  have h0:=new_cells w T #[v0,v1,v2,v3,v4] j u h;have hadd:(⟨w.heap.size,0,none⟩:Addr).add j=⟨w.heap.size,j,none⟩:=by unfold Addr.add;split <;> simp_all
  rw[hadd] at h0;exact h0
 refine⟨k 0 _ rfl,k 1 _ rfl,k 2 _ rfl,k 3 _ rfl,k 4 _ rfl,fun q hq=>?_⟩;have h:q=0∨q=1∨q=2∨q=3∨q=4:=by omega
 rcases h with rfl | rfl | rfl | rfl | rfl <;> simp[go_sem]
theorem size_put5 (W:World) (c:Nat) (v0 v1 v2 v3 v4:Value):(put5 W c v0 v1 v2 v3 v4).heap.size=W.heap.size:=by simp[put5,World.setCell]
theorem block_put5 (W:World) (c:Nat) (v0 v1 v2 v3 v4:Value) {k:Nat} (hk:k≠c):(put5 W c v0 v1 v2 v3 v4).heap[k]?=W.heap[k]?:=by
 have e:∀ (W:World) (j:Nat) (u:Value),(W.setCell ⟨c,j,none⟩ u).heap[k]?=W.heap[k]?:=fun W j u=>Below.heap_setCell _ _ _ _ hk
 unfold put5;rw[e,e,e,e,e]
structure RdC (b:Nat) (w:World) (A:Option Addr) (n c:Nat) (l:List Tok) (k:Nat):Prop where
 c0:w.cell? ⟨b,0,none⟩=some (.slice A n c)
 c1:w.cell? ⟨b,1,none⟩=some (.int .i64 k)
 f1:w.frozen? ⟨b,1,none⟩=false
 row:RdT b w A n l
 giv:∀ w',Below b w w'→Given w'
theorem RdC.lt {b:Nat} {w:World} {A:Option Addr} {n c:Nat} {l:List Tok} {k:Nat} (h:RdC b w A n c l k):b<w.heap.size:=World.block_lt_of_cell? w _ h.c0
theorem RdC.low {b:Nat} {w w':World} {A:Option Addr} {n c:Nat} {l:List Tok} {k:Nat} (h:RdC b w A n c l k) (hb:Below w.heap.size w w'):RdC b w' A n c l k:=
 have hl:=h.lt;have hB:Below b w w':=hb.mono (by omega)
 ⟨(hb.cell (p:=⟨b,0,none⟩) hl).trans h.c0,(hb.cell (p:=⟨b,1,none⟩) hl).trans h.c1,(hb.frozen (p:=⟨b,1,none⟩) hl).trans h.f1,h.row.keep hB,fun w2 h2=>h.giv w2 (hB.trans h2)⟩
theorem RdC.other {b:Nat} {w:World} {A:Option Addr} {n c:Nat} {l:List Tok} {k:Nat} (h:RdC b w A n c l k) {a:Addr} (ha:b<a.block) (u:Value):RdC b (w.setCell a u) A n c l k:=by
 have hB:Below b w (w.setCell a u):=(Below.refl _ _).setCell (by omega) _;refine⟨?_,?_,?_,h.row.keep hB,fun w2 h2=>h.giv w2 (hB.trans h2)⟩
 ·rw[World.cell?_setCell_other _ _ _ _ (fun e=>by rw[e] at ha;exact absurd ha (Nat.lt_irrefl _))];exact h.c0
 ·rw[World.cell?_setCell_other _ _ _ _ (fun e=>by rw[e] at ha;exact absurd ha (Nat.lt_irrefl _))];exact h.c1
 ·rw[World.frozen?_setCell];exact h.f1
theorem RdC.put5 {b:Nat} {w:World} {A:Option Addr} {n c:Nat} {l:List Tok} {k:Nat} (h:RdC b w A n c l k) {q:Nat} (hq:b<q) (v0 v1 v2 v3 v4:Value):RdC b (put5 w q v0 v1 v2 v3 v4) A n c l k:=
 ((((h.other (a:=⟨q,0,none⟩) hq _).other (a:=⟨q,1,none⟩) hq _).other (a:=⟨q,2,none⟩) hq _).other (a:=⟨q,3,none⟩) hq _).other (a:=⟨q,4,none⟩) hq _
theorem below_placeX (b:Nat) (w:World) (u:Value):Below b w (w.setCell ⟨b,1,none⟩ u):=⟨rfl,rfl,rfl,by simp[World.setCell],fun k hk=>Below.heap_setCell _ _ _ _ (by show k≠b;omega)⟩
theorem RdC.place {b:Nat} {w:World} {A:Option Addr} {n c:Nat} {l:List Tok} {k:Nat} (h:RdC b w A n c l k) (j:Nat):RdC b (w.setCell ⟨b,1,none⟩ (.int .i64 j)) A n c l j:=by
 have hB:Below b w (w.setCell ⟨b,1,none⟩ (.int .i64 j)):=below_placeX b w _;refine⟨?_,World.cell?_setCell_same _ _ _ h.c1,?_,h.row.keep hB,fun w2 h2=>h.giv w2 (hB.trans h2)⟩
 ·rw[World.cell?_setCell_other _ _ _ _ (by simp)];exact h.c0
 ·rw[World.frozen?_setCell];exact h.f1
structure FitL (l:List Tok):Prop where
 ok:∀ t∈l,okT t=true
 fit:∀ t∈l,FitT t
 len:l.length≤1000000
def nxt (l:List Tok) (k:Nat):Tok:=l[k]?.getD ⟨0,[],0,[],0⟩
theorem nxt_at {l:List Tok} {k:Nat} {t:Tok} (h:l[k]?=some t):nxt l k=t:=by unfold nxt;rw[h];rfl
theorem nxt_end {l:List Tok} {k:Nat} (h:¬ k<l.length):nxt l k=⟨0,[],0,[],0⟩:=by unfold nxt;rw[List.getElem?_eq_none (by omega)];rfl
theorem sg_nxt (l:List Tok) (k:Nat):sg l k=if (nxt l k).kind=4 then (nxt l k).word else []:=by
 unfold sg nxt
 cases l[k]? with
 | none=>rfl
 | some t=>rfl
def NextP (w:World) (t:Tok) (e:Ending) (w':World):Prop:=∃ A c,e= .returned (.agg #[.int .i64 t.kind,.string ⟨t.word.toArray⟩,.int .i64 t.n,.slice A t.parts.length c,.int .i64 t.pl])∧Below w.heap.size w w'
theorem next_any (b:Nat) (w:World) (A:Option Addr) (n c:Nat) (l:List Tok) (k:Nat) (h:RdC b w A n c l k) (hf:FitL l) (hk:k≤n):
  Calls Tryz.prog 72 #[.pointer (some ⟨b,0,none⟩)] w (NextP w (nxt l k)):=by
 have hlen:=h.row.1;have hl:=hf.len;obtain⟨c0,c1,f1,row,giv⟩:=h;have hbl:b<w.heap.size:=World.block_lt_of_cell? w _ c0;by_cases a:k<n
 ·obtain⟨t,ht⟩:∃ t,l[k]?=some t:=⟨_,List.getElem?_eq_getElem (by omega)⟩
  rw[nxt_at ht];have hok:=hf.ok t (List.mem_of_getElem? ht);have hft:=hf.fit t (List.mem_of_getElem? ht);obtain⟨ad,A',c',rfl,h5,hrd⟩:=row.at_ ht
  have KT:Hid (∀ w',Below w.heap.size w w'→Calls Tryz.prog 42 #[tokA t A' c'] w' fun e w2=>e= .returned (.tuple #[.string (textB t),.int .i64 0])∧Below w'.heap.size w' w2):=Lib.hid fun w' hb'=>by
   have:=text_any t A' c' w' ((hrd.up (by omega)).onto hb') hft (giv w' (hb'.mono (by omega)));unfold errB at this;rw[hok,if_pos rfl] at this;exact this
  unfold tokA at KT;obtain⟨x0,x1,x2,x3,x4⟩:=h5;have hbt:(ad.add (k * 5)).block<w.heap.size:=World.block_lt_of_cell? w _ x0;obtain⟨W,hW⟩:∃ W:ByteArray,W=⟨t.word.toArray⟩:=⟨_,rfl⟩;obtain⟨m,hm⟩:∃ m,m=t.parts.length:=⟨_,rfl⟩;rw[←hW] at x1 KT;rw[←hm] at x3 KT;unfold NextP;rw[←hW,←hm];have b1:((k:Int)==(n:Int))=false:=by simp;omega
  have b2:(k==n)=false:=by simp;omega
  have hk1:(k:Int)<n:=by omega
  clear hrd hft hok ht hW hm row giv hf hlen hl;go_enter Tryz.func72,Tryz.ntmps72;go_wp2;go_quiet (fail);go_wp2
  go_region
  obtain⟨o1,ho1⟩:∃ o:Obj,o= .cells #[.int .i64 0,.string ⟨#[]⟩,.int .i64 0,.slice none 0 0,.int .i64 0] 38:=⟨_,rfl⟩;obtain⟨W1,hW1⟩:∃ W1,W1=((w.alloc o1).drewN (nq+1)).alloc (.cells #[.int .i64 t.kind,.string W,.int .i64 t.n,.slice A' m c',.int .i64 t.pl] 38):=⟨_,rfl⟩;have hs1:((w.alloc o1).drewN (nq+1)).heap.size=w.heap.size+1:=by simp[World.drewN]
  have HX1:Hid (Box5 W1 w.heap.size (.int .i64 0) (.string ⟨#[]⟩) (.int .i64 0) (.slice none 0 0) (.int .i64 0)):=Lib.hid (by
   rw[hW1,ho1];exact((Box5.new w _ _ _ _ _ _).drews _).low ((Below.refl _ _).alloc (Nat.le_refl _) _))
  have HT1:Hid (Box5 W1 (w.heap.size+1) (.int .i64 t.kind) (.string W) (.int .i64 t.n) (.slice A' m c') (.int .i64 t.pl)):=Lib.hid (by
   rw[hW1,←hs1];exact Box5.new _ _ _ _ _ _ _)
  have HB1:Hid (Below (w.heap.size+1) (w.alloc o1) W1):=Lib.hid (by
   rw[hW1];exact(below_drewN (Below.refl _ _) _).alloc (by rw[hs1];exact Nat.le_refl _) _)
  have hz:(w.alloc o1).heap.size=w.heap.size+1:=by simp
  rw[ho1] at hW1;rw[←hW1];clear hW1 hs1;have HB0:Hid (Below w.heap.size w W1):=Lib.hid (((Below.refl _ _).alloc (Nat.le_refl _) o1).trans (HB1.out.mono (by omega)));have hsz:=HB1.out.size;rw[hz] at hsz;have HZ:=Lib.hid hz;clear hz ho1 x0 x1 x2 x3 x4 c0 c1 f1;obtain⟨g0,g1,g2,g3,g4,_⟩:=HT1.out;go_wp2_with (go_at_call 42;go_must (((with_reducible refine(KT.out _ HB0.out).mono ?_));rintro e w2 ⟨rfl,hb2⟩;obtain⟨d0,d1,d2,d3,d4,_⟩:=HX1.out.low hb2;obtain⟨e0,e1,e2,e3,e4⟩:=(HX1.out.low hb2).freed;obtain⟨k0,k1,k2,k3,k4,_⟩:=HT1.out.low hb2;have HB2:=Lib.hid (HB1.out.trans (hb2.mono (by omega)));clear hb2));refine bodyPost_ret (v:= .agg #[.int .i64 t.kind,.string W,.int .i64 t.n,.slice A' m c',.int .i64 t.pl]) (by simp[results,Tryz.results72,go_sem,d0,d1,d2,d3,d4]) rfl ⟨A',c',rfl,?_⟩;exact box5_below (o:=o1) (by rw[HZ.out];exact HB2.out) _ _ _ _ _
 ·have hkn:k=n:=by omega
  rw[nxt_end (by omega)];unfold NextP;have b1:((k:Int)==(n:Int))=true:=by simp;omega
  have b2:(k==n)=true:=by simp;omega
  clear row giv hf hlen hl hkn;go_enter Tryz.func72,Tryz.ntmps72;go_wp2;go_quiet (fail);go_wp2;refine bodyPost_ret (v:= .agg #[.int .i64 0,.string ⟨#[]⟩,.int .i64 0,.slice none 0 0,.int .i64 0]) (by simp[results,Tryz.results72,go_sem]) rfl ⟨none,0,rfl,?_⟩;exact box5_below (below_drewN (Below.refl _ _) _) _ _ _ _ _
theorem nextsign_any (b:Nat) (w:World) (A:Option Addr) (n c:Nat) (l:List Tok) (k:Nat) (h:RdC b w A n c l k) (hf:FitL l) (hk:k≤n):
  Calls Tryz.prog 50 #[.pointer (some ⟨b,0,none⟩)] w fun e w'=>e= .returned (.string ⟨(sg l k).toArray⟩)∧Below w.heap.size w w':=by
 have K:=Lib.hid (next_any b w A n c l k h hf hk);obtain⟨S,hS⟩:∃ S:ByteArray,S=⟨(sg l k).toArray⟩:=⟨_,rfl⟩;rw[←hS];rw[sg_nxt] at hS;clear h hf hk;generalize nxt l k=t at K hS;by_cases e4:t.kind=4
 ·rw[if_pos e4] at hS
  obtain⟨K4,hK4⟩:∃ x,x=t.kind:=⟨_,rfl⟩;unfold NextP at K;rw[←hS,e4] at K;clear hS e4 hK4;go_enter Tryz.func50,Tryz.ntmps50;go_wp2_with (go_at_call 72;go_must (((with_reducible refine K.out.mono ?_));rintro e w1 ⟨A1,c1,rfl,hb1⟩;have HB1:=Lib.hid hb1;clear hb1));go_ret;exact⟨rfl,HB1.out.trans (((Below.refl _ _).alloc (Nat.le_refl _) _).mono HB1.out.size)⟩
 ·rw[if_neg e4,nilB] at hS
  subst hS;obtain⟨x,hx⟩:∃ x,x=t.kind:=⟨_,rfl⟩;have q4:(x != 4)=true:=by rw[hx];simpa using e4
  unfold NextP at K;rw[←hx] at K;clear hx e4;go_enter Tryz.func50,Tryz.ntmps50;go_wp2_with (go_at_call 72;go_must (((with_reducible refine K.out.mono ?_));rintro e w1 ⟨A1,c1,rfl,hb1⟩;have HB1:=Lib.hid hb1;clear hb1));go_ret;exact⟨rfl,HB1.out.trans (((Below.refl _ _).alloc (Nat.le_refl _) _).mono HB1.out.size)⟩
def FrX (lo hi:Nat):Nat→Prop:=fun k=>lo≤k∧k<hi
theorem KidsX.leaf (P:Nat→Prop) (w:World) (A:Option Addr) (k n:Int) (nm op:Bs):KidsX P w A (.mk k n nm op []):=by rw[KidsX];exact .inl rfl
theorem KidsX.wide {P Q:Nat→Prop} {w:World} {A:Option Addr} {r:Ex} (h:KidsX P w A r) (hPQ:∀ k,P k→Q k):KidsX Q w A r:=kidsX_of (fun _ _=>rfl) hPQ r A h
theorem KidsX.to {lo hi lo' hi':Nat} {w:World} {A:Option Addr} {r:Ex} (h:KidsX (FrX lo hi) w A r) (h1:lo'≤lo) (h2:hi≤hi'):KidsX (FrX lo' hi') w A r:=h.wide fun _ hk=>⟨Nat.le_trans h1 hk.1,Nat.lt_of_lt_of_le hk.2 h2⟩
theorem KidsX.over {P:Nat→Prop} {w w':World} {A:Option Addr} {r:Ex} (h:KidsX P w A r) (hg:∀ k,P k→w'.heap[k]?=w.heap[k]?):KidsX P w' A r:=
 kidsX_of (fun _ ha=>World.cell?_of_block (hg _ ha)) (fun _ hk=>hk) r A h
theorem KidsX.grownX {b:Nat} {P:Nat→Prop} {w w':World} {A:Option Addr} {r:Ex} (h:KidsX P w A r) (hg:w.grownBy w' (some b)) (hP:∀ k,P k→k<w.heap.size∧k≠b):KidsX P w' A r:=
 h.over fun k hk=>hg.block k (hP k hk).1 (fun e=>(hP k hk).2 (by injection e))
theorem KidsX.put5 {P:Nat→Prop} {w:World} {A:Option Addr} {r:Ex} (h:KidsX P w A r) {c:Nat} (hc:¬ P c) (v0 v1 v2 v3 v4:Value):KidsX P (put5 w c v0 v1 v2 v3 v4) A r:=
 h.over fun _ hk=>block_put5 _ _ _ _ _ _ _ (fun e=>hc (e ▸ hk))
theorem KidsX.allocX {P:Nat→Prop} {w:World} {A:Option Addr} {r:Ex} (h:KidsX P w A r) (hP:∀ k,P k→k<w.heap.size) (o:Obj):KidsX P (w.alloc o) A r:=
 h.over fun k hk=>(Below.alloc (Below.refl w.heap.size w) (Nat.le_refl _) o).block k (hP k hk)
theorem valX_eq (x:Ex) (A:Option Addr) (c:Nat):valX x A c= .agg #[.int .i64 x.kind,.int .i64 x.n,.string ⟨x.name.toArray⟩,.string ⟨x.op.toArray⟩,.slice A x.kids.length c]:=by cases x;rfl
theorem atX_eq {w:World} {a:Addr} {x:Ex} {A:Option Addr} {c:Nat} (h0:w.cell? a=some (.int .i64 x.kind)) (h1:w.cell? ⟨a.block,a.off+1,none⟩=some (.int .i64 x.n)) (h2:w.cell? ⟨a.block,a.off+2,none⟩=some (.string ⟨x.name.toArray⟩))
 (h3:w.cell? ⟨a.block,a.off+3,none⟩=some (.string ⟨x.op.toArray⟩)) (h4:w.cell? ⟨a.block,a.off+4,none⟩=some (.slice A x.kids.length c)):AtX w a x A c:=by cases x;exact⟨h0,h1,h2,h3,h4⟩
abbrev cells5 (x:Ex) (A:Option Addr) (c:Nat):List Value:=[.int .i64 x.kind,.int .i64 x.n,.string ⟨x.name.toArray⟩,.string ⟨x.op.toArray⟩,.slice A x.kids.length c]
theorem new_at (W:World) (T:TypeId) (cs:Array Value) (j:Nat) (u:Value) (h:cs.toList[j]?=some u):(W.alloc (.cells cs T)).cell? ⟨W.heap.size,j,none⟩=some u:=by
 have h0:=new_cells W T cs j u h;have hadd:(⟨W.heap.size,0,none⟩:Addr).add j=⟨W.heap.size,j,none⟩:=by unfold Addr.add;split <;> simp_all
 rw[hadd] at h0;exact h0
theorem kid_one {P:Nat→Prop} {W:World} {x:Ex} {A:Option Addr} {c:Nat} (h:KidsX P W A x) (hP:∀ k,P k→k<W.heap.size) (k n:Int) (nm op:Bs):
  KidsX (fun j=>P j∨j=W.heap.size) (W.alloc (.cells #[.int .i64 x.kind,.int .i64 x.n,.string ⟨x.name.toArray⟩,.string ⟨x.op.toArray⟩,.slice A x.kids.length c] 24)) (some ⟨W.heap.size,0,none⟩) (.mk k n nm op [x]):=by
 rw[KidsX];refine .inr ⟨_,rfl,.inr rfl,?_⟩;rw[KidsXL,KidsXL];have e:(⟨W.heap.size,0,none⟩:Addr).add (0 * 5)=⟨W.heap.size,0,none⟩:=by simp[Addr.add]
 rw[e];exact⟨⟨A,c,atX_eq (new_at _ _ _ 0 _ rfl) (new_at _ _ _ 1 _ rfl) (new_at _ _ _ 2 _ rfl) (new_at _ _ _ 3 _ rfl) (new_at _ _ _ 4 _ rfl),(h.allocX hP _).wide fun _ hk=> .inl hk⟩,trivial⟩
theorem kid_two {P:Nat→Prop} {W:World} {x y:Ex} {A A':Option Addr} {c c':Nat} (h:KidsX P W A x) (h':KidsX P W A' y) (hP:∀ k,P k→k<W.heap.size) (k n:Int) (nm op:Bs):
  KidsX (fun j=>P j∨j=W.heap.size) (W.alloc (.cells #[.int .i64 x.kind,.int .i64 x.n,.string ⟨x.name.toArray⟩,.string ⟨x.op.toArray⟩,.slice A x.kids.length c,.int .i64 y.kind,.int .i64 y.n,.string ⟨y.name.toArray⟩,.string ⟨y.op.toArray⟩,.slice A' y.kids.length c'] 24)) (some ⟨W.heap.size,0,none⟩) (.mk k n nm op [x,y]):=by
 rw[KidsX];refine .inr ⟨_,rfl,.inr rfl,?_⟩;rw[KidsXL,KidsXL,KidsXL];have e:(⟨W.heap.size,0,none⟩:Addr).add (0 * 5)=⟨W.heap.size,0,none⟩:=by simp[Addr.add]
 have e1:(⟨W.heap.size,0,none⟩:Addr).add ((0+1) * 5)=⟨W.heap.size,5,none⟩:=by simp[Addr.add]
 rw[e,e1]
 exact⟨⟨A,c,atX_eq (new_at _ _ _ 0 _ rfl) (new_at _ _ _ 1 _ rfl) (new_at _ _ _ 2 _ rfl) (new_at _ _ _ 3 _ rfl) (new_at _ _ _ 4 _ rfl),(h.allocX hP _).wide fun _ hk=> .inl hk⟩,
  ⟨A',c',atX_eq (new_at _ _ _ 5 _ rfl) (new_at _ _ _ 6 _ rfl) (new_at _ _ _ 7 _ rfl) (new_at _ _ _ 8 _ rfl) (new_at _ _ _ 9 _ rfl),(h'.allocX hP _).wide fun _ hk=> .inl hk⟩,trivial⟩
theorem RdC.placez {b:Nat} {w:World} {A:Option Addr} {n c:Nat} {l:List Tok} {k:Nat} (h:RdC b w A n c l k) (j:Nat) (z:Int) (hz:z=j):RdC b (w.setCell ⟨b,1,none⟩ (.int .i64 z)) A n c l j:=by subst hz;exact h.place j
theorem RdC.box {b:Nat} {w:World} {A:Option Addr} {n c:Nat} {l:List Tok} {k:Nat} (h:RdC b w A n c l k) (o:Obj):RdC b (w.alloc o) A n c l k:=h.low ((Below.refl _ _).alloc (Nat.le_refl _) _)
def PostC (b:Nat) (w:World) (A:Option Addr) (n c:Nat) (l:List Tok) (r:Rs) (e:Ending) (w':World):Prop:=w.grownBy w' (some b)∧match r with
 | .ok x j=>(∃ A' c',e= .returned (.tuple #[.agg #[.int .i64 x.kind,.int .i64 x.n,.string ⟨x.name.toArray⟩,.string ⟨x.op.toArray⟩,.slice A' x.kids.length c'],.int .i64 0])∧KidsX (FrX w.heap.size w'.heap.size) w' A' x)∧RdC b w' A n c l j
 | .bad j er=>e= .returned (.tuple #[.agg #[.int .i64 0,.int .i64 0,.string ⟨#[]⟩,.string ⟨#[]⟩,.slice none 0 0],.int .i64 er])∧RdC b w' A n c l j
def ConOne (b:Nat) (A:Option Addr) (n c:Nat) (l:List Tok) (k d:Nat) (r:Rs):Prop:=∀ w,RdC b w A n c l k→Calls Tryz.prog 49 #[.pointer (some ⟨b,0,none⟩),.int .i64 d] w (PostC b w A n c l r)
def ConRow (b:Nat) (A:Option Addr) (n c:Nat) (l:List Tok) (m k d:Nat) (r:Rs):Prop:=∀ w,RdC b w A n c l k→Calls Tryz.prog 31 #[.pointer (some ⟨b,0,none⟩),.int .i64 m,.int .i64 d] w (PostC b w A n c l r)
structure BoxR (b:Nat) (w w1 w2:World):Prop where
 box:Box5 w2 w.heap.size (.int .i64 0) (.int .i64 0) (.string ⟨#[]⟩) (.string ⟨#[]⟩) (.slice none 0 0)
 lt:w.heap.size<w2.heap.size
 grown:w.grownBy w2 (some b)
 size:w1.heap.size≤w2.heap.size
abbrev zeroX:Obj:= .cells #[.int .i64 0,.int .i64 0,.string ⟨#[]⟩,.string ⟨#[]⟩,.slice none 0 0] 24
theorem boxr_of {b:Nat} {w w2:World} (u:Value) (hlt:b<w.heap.size) (hg:((w.setCell ⟨b,1,none⟩ u).alloc zeroX).grownBy w2 (some b)):BoxR b w ((w.setCell ⟨b,1,none⟩ u).alloc zeroX) w2:=by
 have hs:(w.setCell ⟨b,1,none⟩ u).heap.size=w.heap.size:=by simp[World.setCell]
 have h1:=Box5.new (w.setCell ⟨b,1,none⟩ u) 24 (.int .i64 0) (.int .i64 0) (.string ⟨#[]⟩) (.string ⟨#[]⟩) (.slice none 0 0);rw[hs] at h1;have h2:=hg.size;simp only[World.size_alloc,hs] at h2;exact⟨h1.grown hg (by omega),by omega,grown_trans (grown_alloc (grown_set b 1 w u) _) hg,hg.size⟩
structure EndR (b:Nat) (w W3:World) (A:Option Addr) (n c:Nat) (l:List Tok) (j:Nat) (v0 v1 v2 v3 v4:Value):Prop where
 box:Box5 W3 w.heap.size v0 v1 v2 v3 v4
 grown:w.grownBy W3 (some b)
 rd:RdC b W3 A n c l j
theorem end_all {b:Nat} {w W W3:World} {A:Option Addr} {n c:Nat} {l:List Tok} {j:Nat} {u0 u1 u2 u3 u4 v0 v1 v2 v3 v4:Value} (hb:b<w.heap.size) (hx:Box5 W w.heap.size u0 u1 u2 u3 u4) (hg:w.grownBy W (some b)) (hr:RdC b W A n c l j)
  (h3:Below (put5 W w.heap.size v0 v1 v2 v3 v4).heap.size (put5 W w.heap.size v0 v1 v2 v3 v4) W3):EndR b w W3 A n c l j v0 v1 v2 v3 v4:=
 ⟨(hx.put _ _ _ _ _).low h3,grown_trans (grown_put5 hg (Nat.le_refl _) _ _ _ _ _) (grown_below h3),(hr.put5 hb _ _ _ _ _).low h3⟩
theorem one_boxX (w:World) (o:Obj):Below w.heap.size w (w.alloc o):=(Below.refl _ _).alloc (Nat.le_refl _) _
theorem signed_deep (b:Nat) (w:World) (A:Option Addr) (n c:Nat) (l:List Tok) (k:Nat) (kd:Int) (h:RdC b w A n c l k):
  Calls Tryz.prog 73 #[.pointer (some ⟨b,0,none⟩),.int .i64 kd,.int .i64 64] w (PostC b w A n c l (.bad k 8)):=by
 have hlt:=h.lt;have H:=Lib.hid h;clear h;go_enter Tryz.func73,Tryz.ntmps73;go_wp2;refine bodyPost_ret (v:= .tuple #[.agg #[.int .i64 0,.int .i64 0,.string ⟨#[]⟩,.string ⟨#[]⟩,.slice none 0 0],.int .i64 8]) (by simp[results,Tryz.results73,go_sem]) rfl ⟨?_,rfl,?_⟩
 ·exact grown_below ((Below.refl _ _).alloc (Nat.le_refl _) _)
 ·exact H.out.box _
theorem signed_bad (b:Nat) (w:World) (A:Option Addr) (n c:Nat) (l:List Tok) (k d:Nat) (kd:Int) (h:RdC b w A n c l k) (hkb:k≤1000000) (hd:d<64) (j er:Nat) (he:er≠0) (HK:ConOne b A n c l (k+1) (d+1) (.bad j er)):
  Calls Tryz.prog 73 #[.pointer (some ⟨b,0,none⟩),.int .i64 kd,.int .i64 d] w (PostC b w A n c l (.bad j er)):=by
 have hlt:=h.lt;have H1:Hid (∀ o,RdC b ((w.setCell ⟨b,1,none⟩ (.int .i64 ((k:Int)+1))).alloc o) A n c l (k+1)):=Lib.hid fun o=>(h.placez (k+1) _ (by omega)).box o
 obtain⟨c0,c1,f1,_,_⟩:=h;have K:Hid (∀ w,RdC b w A n c l (k+1)→Calls Tryz.prog 49 #[.pointer (some ⟨b,0,none⟩),.int .i64 ((d:Int)+1)] w (PostC b w A n c l (.bad j er))):=Lib.hid HK;have b1:((d:Int)==64)=false:=by simp;omega
 have b2:((er:Int) != 0)=true:=by simp;omega
 have b3:(er != 0)=true:=by simp;omega
 clear HK he;go_enter Tryz.func73,Tryz.ntmps73;go_wp2_with (go_at_call 49;go_must ((with_reducible refine(K.out _ (H1.out _)).mono ?_);rintro e w2 ⟨hg2,rfl,hr2⟩;have HB:=Lib.hid (boxr_of _ hlt hg2);have hq:=HB.out.lt;obtain⟨d0,d1,d2,d3,d4,_⟩:=HB.out.box;obtain⟨e0,e1,e2,e3,e4⟩:=HB.out.box.freed;have HR:=Lib.hid hr2;clear hg2 hr2));obtain⟨W3,hW3⟩:∃ W3,W3=(put5 w2 w.heap.size (.int .i64 0) (.int .i64 0) (.string ⟨#[]⟩) (.string ⟨#[]⟩) (.slice none 0 0)).alloc zeroX:=⟨_,rfl⟩;have HE:EndR b w W3 A n c l j (.int .i64 0) (.int .i64 0) (.string ⟨#[]⟩) (.string ⟨#[]⟩) (.slice none 0 0):=end_all hlt HB.out.box HB.out.grown HR.out (by rw[hW3];exact one_boxX _ _);rw[←hW3];clear hW3 d0 d1 d2 d3 d4;obtain⟨d0,d1,d2,d3,d4,_⟩:=HE.box;exact bodyPost_ret (v:= .tuple #[.agg #[.int .i64 0,.int .i64 0,.string ⟨#[]⟩,.string ⟨#[]⟩,.slice none 0 0],.int .i64 er]) (by simp[results,Tryz.results73,go_sem,d0,d1,d2,d3,d4]) rfl ⟨HE.grown,rfl,HE.rd⟩
theorem signed_ok (b:Nat) (w:World) (A:Option Addr) (n c:Nat) (l:List Tok) (k d:Nat) (kd:Int) (h:RdC b w A n c l k) (hkb:k≤1000000) (hd:d<64) (x:Ex) (j:Nat) (HK:ConOne b A n c l (k+1) (d+1) (.ok x j)):
  Calls Tryz.prog 73 #[.pointer (some ⟨b,0,none⟩),.int .i64 kd,.int .i64 d] w (PostC b w A n c l (.ok (.mk kd 0 [] [] [x]) j)):=by
 have hlt:=h.lt;have H1:Hid (∀ o,RdC b ((w.setCell ⟨b,1,none⟩ (.int .i64 ((k:Int)+1))).alloc o) A n c l (k+1)):=Lib.hid fun o=>(h.placez (k+1) _ (by omega)).box o
 obtain⟨c0,c1,f1,_,_⟩:=h;have K:Hid (∀ w,RdC b w A n c l (k+1)→Calls Tryz.prog 49 #[.pointer (some ⟨b,0,none⟩),.int .i64 ((d:Int)+1)] w (PostC b w A n c l (.ok x j))):=Lib.hid HK;have b1:((d:Int)==64)=false:=by simp;omega
 clear HK;go_enter Tryz.func73,Tryz.ntmps73;go_wp2_with (go_at_call 49;go_must ((with_reducible refine(K.out _ (H1.out _)).mono ?_);rintro e w2 ⟨hg2,⟨A2,c2,rfl,hk2⟩,hr2⟩;have HB:=Lib.hid (boxr_of _ hlt hg2);have hq:=HB.out.lt;obtain⟨d0,d1,d2,d3,d4,_⟩:=HB.out.box;obtain⟨e0,e1,e2,e3,e4⟩:=HB.out.box.freed;have HR:=Lib.hid hr2;have HKD:=Lib.hid hk2;clear hg2 hr2 hk2));obtain⟨W,hW⟩:∃ W,W=(put5 w2 w.heap.size (.int .i64 kd) (.int .i64 0) (.string ⟨#[]⟩) (.string ⟨#[]⟩) (.slice (some ⟨w2.heap.size+1,0,none⟩) 1 1)).alloc (.cells #[.int .i64 x.kind,.int .i64 x.n,.string ⟨x.name.toArray⟩,.string ⟨x.op.toArray⟩,.slice A2 x.kids.length c2] 24):=⟨_,rfl⟩;have hs:W.heap.size=w2.heap.size+1:=by rw[hW];simp
 obtain⟨W3,hW3⟩:∃ W3,W3=W.alloc (.cells #[.int .i64 x.kind,.int .i64 x.n,.string ⟨x.name.toArray⟩,.string ⟨x.op.toArray⟩,.slice A2 x.kids.length c2] 24):=⟨_,rfl⟩;have HE:EndR b w W3 A n c l j (.int .i64 kd) (.int .i64 0) (.string ⟨#[]⟩) (.string ⟨#[]⟩) (.slice (some ⟨w2.heap.size+1,0,none⟩) 1 1):=end_all hlt HB.out.box HB.out.grown HR.out (by rw[hW3,hW];exact(one_boxX _ _).trans ((one_boxX _ _).mono (by simp)))
 have hk3:KidsX (FrX w.heap.size W3.heap.size) W3 (some ⟨w2.heap.size+1,0,none⟩) (.mk kd 0 [] [] [x]):=by
  have g1:=HKD.out;have hl1:((w.setCell ⟨b,1,none⟩ (.int .i64 ((k:Int)+1))).alloc zeroX).heap.size=w.heap.size+1:=by simp
  rw[hl1] at g1;have g2:=(g1.put5 (c:=w.heap.size) (fun hp=>by unfold FrX at hp;omega) (.int .i64 kd) (.int .i64 0) (.string ⟨#[]⟩) (.string ⟨#[]⟩) (.slice (some ⟨w2.heap.size+1,0,none⟩) 1 1)).allocX (fun k hk=>by rw[size_put5];exact hk.2) (.cells #[.int .i64 x.kind,.int .i64 x.n,.string ⟨x.name.toArray⟩,.string ⟨x.op.toArray⟩,.slice A2 x.kids.length c2] 24);rw[←hW] at g2;have g3:=kid_one (c:=c2) g2 (fun k hk=>by rw[hs];have:=hk.2;omega) kd 0 [] [];rw[←hW3,hs] at g3;have hs3:W3.heap.size=w2.heap.size+2:=by rw[hW3];simp[hs]
  exact g3.wide fun q hp=>by
   rw[hs3]
   rcases hp with hp | rfl
   ·exact⟨by have:=hp.1;omega,by have:=hp.2;omega⟩
   ·exact⟨by omega,by omega⟩
 rw[←hW,←hW3];clear hW hW3 d0 d1 d2 d3 d4;obtain⟨d0,d1,d2,d3,d4,_⟩:=HE.box;exact bodyPost_ret (v:= .tuple #[.agg #[.int .i64 kd,.int .i64 0,.string ⟨#[]⟩,.string ⟨#[]⟩,.slice (some ⟨w2.heap.size+1,0,none⟩) 1 1],.int .i64 0]) (by simp[results,Tryz.results73,go_sem,d0,d1,d2,d3,d4]) rfl ⟨HE.grown,⟨_,1,rfl,hk3⟩,HE.rd⟩
theorem inner_deep (b:Nat) (w:World) (A:Option Addr) (n c:Nat) (l:List Tok) (k:Nat) (h:RdC b w A n c l k):
  Calls Tryz.prog 74 #[.pointer (some ⟨b,0,none⟩),.int .i64 64] w (PostC b w A n c l (.bad k 8)):=by
 have H:=Lib.hid h;clear h;go_enter Tryz.func74,Tryz.ntmps74;go_wp2;exact bodyPost_ret (v:= .tuple #[.agg #[.int .i64 0,.int .i64 0,.string ⟨#[]⟩,.string ⟨#[]⟩,.slice none 0 0],.int .i64 8]) (by simp[results,Tryz.results74,go_sem]) rfl ⟨grown_below (one_boxX _ _),rfl,H.out.box _⟩
theorem inner_bad (b:Nat) (w:World) (A:Option Addr) (n c:Nat) (l:List Tok) (k d:Nat) (h:RdC b w A n c l k) (hkb:k≤1000000) (hd:d<64) (j er:Nat) (he:er≠0) (HK:ConRow b A n c l 1 (k+1) (d+1) (.bad j er)):
  Calls Tryz.prog 74 #[.pointer (some ⟨b,0,none⟩),.int .i64 d] w (PostC b w A n c l (.bad j er)):=by
 have hlt:=h.lt;have H1:Hid (∀ o,RdC b ((w.setCell ⟨b,1,none⟩ (.int .i64 ((k:Int)+1))).alloc o) A n c l (k+1)):=Lib.hid fun o=>(h.placez (k+1) _ (by omega)).box o
 obtain⟨c0,c1,f1,_,_⟩:=h;have K:Hid (∀ w,RdC b w A n c l (k+1)→Calls Tryz.prog 31 #[.pointer (some ⟨b,0,none⟩),.int .i64 1,.int .i64 ((d:Int)+1)] w (PostC b w A n c l (.bad j er))):=Lib.hid HK;have b1:((d:Int)==64)=false:=by simp;omega
 have b2:((er:Int) != 0)=true:=by simp;omega
 have b3:(er != 0)=true:=by simp;omega
 clear HK he;go_enter Tryz.func74,Tryz.ntmps74;go_wp2_with (go_at_call 31;go_must ((with_reducible refine(K.out _ (H1.out _)).mono ?_);rintro e w2 ⟨hg2,rfl,hr2⟩;have HB:=Lib.hid (boxr_of _ hlt hg2);have hq:=HB.out.lt;obtain⟨d0,d1,d2,d3,d4,_⟩:=HB.out.box;obtain⟨e0,e1,e2,e3,e4⟩:=HB.out.box.freed;have HR:=Lib.hid hr2;clear hg2 hr2));obtain⟨W3,hW3⟩:∃ W3,W3=(put5 w2 w.heap.size (.int .i64 0) (.int .i64 0) (.string ⟨#[]⟩) (.string ⟨#[]⟩) (.slice none 0 0)).alloc zeroX:=⟨_,rfl⟩;have HE:EndR b w W3 A n c l j (.int .i64 0) (.int .i64 0) (.string ⟨#[]⟩) (.string ⟨#[]⟩) (.slice none 0 0):=end_all hlt HB.out.box HB.out.grown HR.out (by rw[hW3];exact one_boxX _ _);unfold put5 at hW3;rw[←hW3];clear hW3 d0 d1 d2 d3 d4;obtain⟨d0,d1,d2,d3,d4,_⟩:=HE.box;exact bodyPost_ret (v:= .tuple #[.agg #[.int .i64 0,.int .i64 0,.string ⟨#[]⟩,.string ⟨#[]⟩,.slice none 0 0],.int .i64 er]) (by simp[results,Tryz.results74,go_sem,d0,d1,d2,d3,d4]) rfl ⟨HE.grown,rfl,HE.rd⟩
structure MidR (b:Nat) (w w2 W:World) (A:Option Addr) (n c:Nat) (l:List Tok) (j:Nat) (x:Ex) (A2:Option Addr) (c2:Nat):Prop where
 box:Box5 W w.heap.size (.int .i64 0) (.int .i64 0) (.string ⟨#[]⟩) (.string ⟨#[]⟩) (.slice none 0 0)
 box2:Box5 W w2.heap.size (.int .i64 x.kind) (.int .i64 x.n) (.string ⟨x.name.toArray⟩) (.string ⟨x.op.toArray⟩) (.slice A2 x.kids.length c2)
 grown:w.grownBy W (some b)
 rd:RdC b W A n c l j
 kids:KidsX (FrX (w.heap.size+1) w2.heap.size) W A2 x
 lt:w.heap.size<w2.heap.size
 lt2:w2.heap.size<W.heap.size
theorem midr_of {b:Nat} {w w1 w2 W:World} {A:Option Addr} {n c:Nat} {l:List Tok} {j:Nat} {x:Ex} {A2:Option Addr} {c2:Nat} (h:BoxR b w w1 w2) (h1:w1.heap.size=w.heap.size+1) (hr:RdC b w2 A n c l j) (hk:KidsX (FrX w1.heap.size w2.heap.size) w2 A2 x)
  (hb:Below (w2.heap.size+1) (w2.alloc (.cells #[.int .i64 x.kind,.int .i64 x.n,.string ⟨x.name.toArray⟩,.string ⟨x.op.toArray⟩,.slice A2 x.kids.length c2] 24)) W):MidR b w w2 W A n c l j x A2 c2:=by
 have hs:(w2.alloc (.cells #[.int .i64 x.kind,.int .i64 x.n,.string ⟨x.name.toArray⟩,.string ⟨x.op.toArray⟩,.slice A2 x.kids.length c2] 24)).heap.size=w2.heap.size+1:=by simp
 rw[←hs] at hb;have hall:Below w2.heap.size w2 W:=(one_boxX _ _).trans (hb.mono (by omega));rw[h1] at hk;exact⟨h.box.low hall,(Box5.new w2 _ _ _ _ _ _).low hb,grown_trans h.grown (grown_below hall),hr.low hall,hk.over fun k hk=>hall.block k hk.2,h.lt,by have:=hb.size;omega⟩
theorem sgB (l:List Tok) (j:Nat) (S:ByteArray) (hS:S=⟨(sg l j).toArray⟩) (p:Bs) (b:Bool) (h:decide (sg l j=p)=b):(S.toList==p)=b∧(S.toList != p)= !b:=by
 have e:S.toList=sg l j:=by rw[toList_data,hS]
 rw[e,←h];by_cases hp:sg l j=p <;> simp[hp]
theorem inner_shut (b:Nat) (w:World) (A:Option Addr) (n c:Nat) (l:List Tok) (k d:Nat) (h:RdC b w A n c l k) (hf:FitL l) (hkb:k≤1000000) (hd:d<64) (x:Ex) (j:Nat) (hj:j≤n) (hs:sg l j=[41]) (HK:ConRow b A n c l 1 (k+1) (d+1) (.ok x j)):
  Calls Tryz.prog 74 #[.pointer (some ⟨b,0,none⟩),.int .i64 d] w (PostC b w A n c l (.ok x (j+1))):=by
 have hlt:=h.lt;have hjb:j≤1000000:=by have:=h.row.1;have:=hf.len;omega
 have H1:Hid (∀ o,RdC b ((w.setCell ⟨b,1,none⟩ (.int .i64 ((k:Int)+1))).alloc o) A n c l (k+1)):=Lib.hid fun o=>(h.placez (k+1) _ (by omega)).box o
 obtain⟨c0,c1,f1,_,_⟩:=h;have K:Hid (∀ w,RdC b w A n c l (k+1)→Calls Tryz.prog 31 #[.pointer (some ⟨b,0,none⟩),.int .i64 1,.int .i64 ((d:Int)+1)] w (PostC b w A n c l (.ok x j))):=Lib.hid HK;obtain⟨S,hS⟩:∃ S:ByteArray,S=⟨(sg l j).toArray⟩:=⟨_,rfl⟩;have KS:Hid (∀ w,RdC b w A n c l j→Calls Tryz.prog 50 #[.pointer (some ⟨b,0,none⟩)] w fun e w'=>e= .returned (.string S)∧Below w.heap.size w w'):=Lib.hid fun w h=>by rw[hS];exact nextsign_any b w A n c l j h hf hj
 obtain⟨s1,s2⟩:=sgB l j S hS [41] true (by simp[hs]);have b1:((d:Int)==64)=false:=by simp;omega
 clear HK hS hs hf hj;go_enter Tryz.func74,Tryz.ntmps74;go_wp2_with (first | (go_at_call 31;go_must ((with_reducible refine(K.out _ (H1.out _)).mono ?_);rintro e w2 ⟨hg2,⟨A2,c2,rfl,hk2⟩,hr2⟩;have HB:=Lib.hid (boxr_of _ hlt hg2);have HR:=Lib.hid hr2;have HKD:=Lib.hid hk2;clear hg2 hr2 hk2)) | (go_at_call 50;go_must ((with_reducible refine(KS.out _ (HR.out.box _)).mono ?_);rintro e w3 ⟨rfl,hb3⟩;have HM:=Lib.hid (midr_of HB.out (by simp) HR.out HKD.out (hb3.mono (by simp)));clear hb3;obtain⟨d0,d1,d2,d3,d4,_⟩:=HM.out.box;obtain⟨e0,e1,e2,e3,e4⟩:=HM.out.box.freed;obtain⟨g0,g1,g2,g3,g4,_⟩:=HM.out.box2;have hr0:=HM.out.rd.c0;have hr1:=HM.out.rd.c1;have hr2:=HM.out.rd.f1;have hl1:=HM.out.lt;have hl2:=HM.out.lt2)));obtain⟨W,hW⟩:∃ W,W=w3.setCell ⟨b,1,none⟩ (.int .i64 ((j:Int)+1)):=⟨_,rfl⟩;have hsW:W.heap.size=w3.heap.size:=by rw[hW];simp[World.setCell]
 have hbx:Box5 W w.heap.size (.int .i64 0) (.int .i64 0) (.string ⟨#[]⟩) (.string ⟨#[]⟩) (.slice none 0 0):=by rw[hW];exact HM.out.box.other (a:=⟨b,1,none⟩) (by show b≠w.heap.size;omega) _
 have hrd:RdC b W A n c l (j+1):=by rw[hW];exact HM.out.rd.placez (j+1) _ (by omega)
 have hgr:w.grownBy W (some b):=by rw[hW];exact grown_trans HM.out.grown (grown_set b 1 _ _)
 have hkd:KidsX (FrX (w.heap.size+1) w2.heap.size) W A2 x:=by rw[hW];exact HM.out.kids.over fun k hk=>Below.heap_setCell _ _ _ _ (by have:=hk.1;show k≠b;omega)
 rw[←hW];obtain⟨W3,hW3⟩:∃ W3,W3=put5 W w.heap.size (.int .i64 x.kind) (.int .i64 x.n) (.string ⟨x.name.toArray⟩) (.string ⟨x.op.toArray⟩) (.slice A2 x.kids.length c2):=⟨_,rfl⟩;have HE:EndR b w W3 A n c l (j+1) (.int .i64 x.kind) (.int .i64 x.n) (.string ⟨x.name.toArray⟩) (.string ⟨x.op.toArray⟩) (.slice A2 x.kids.length c2):=end_all hlt hbx hgr hrd (by rw[hW3];exact Below.refl _ _)
 have hk3:KidsX (FrX w.heap.size W3.heap.size) W3 A2 x:=by
  rw[hW3];exact(hkd.put5 (fun hp=>by have:=hp.1;omega) _ _ _ _ _).to (by omega) (by rw[size_put5,hsW];omega)
 unfold put5 at hW3;rw[←hW3];clear hW hW3 d0 d1 d2 d3 d4;obtain⟨d0,d1,d2,d3,d4,_⟩:=HE.box;exact bodyPost_ret (v:= .tuple #[.agg #[.int .i64 x.kind,.int .i64 x.n,.string ⟨x.name.toArray⟩,.string ⟨x.op.toArray⟩,.slice A2 x.kids.length c2],.int .i64 0]) (by simp[results,Tryz.results74,go_sem,d0,d1,d2,d3,d4]) rfl ⟨HE.grown,⟨_,_,rfl,hk3⟩,HE.rd⟩
theorem inner_open (b:Nat) (w:World) (A:Option Addr) (n c:Nat) (l:List Tok) (k d:Nat) (h:RdC b w A n c l k) (hf:FitL l) (hkb:k≤1000000) (hd:d<64) (x:Ex) (j:Nat) (hj:j≤n) (hs:sg l j≠[41]) (HK:ConRow b A n c l 1 (k+1) (d+1) (.ok x j)):
  Calls Tryz.prog 74 #[.pointer (some ⟨b,0,none⟩),.int .i64 d] w (PostC b w A n c l (.bad j 1)):=by
 have hlt:=h.lt;have H1:Hid (∀ o,RdC b ((w.setCell ⟨b,1,none⟩ (.int .i64 ((k:Int)+1))).alloc o) A n c l (k+1)):=Lib.hid fun o=>(h.placez (k+1) _ (by omega)).box o
 obtain⟨c0,c1,f1,_,_⟩:=h;have K:Hid (∀ w,RdC b w A n c l (k+1)→Calls Tryz.prog 31 #[.pointer (some ⟨b,0,none⟩),.int .i64 1,.int .i64 ((d:Int)+1)] w (PostC b w A n c l (.ok x j))):=Lib.hid HK;obtain⟨S,hS⟩:∃ S:ByteArray,S=⟨(sg l j).toArray⟩:=⟨_,rfl⟩;have KS:Hid (∀ w,RdC b w A n c l j→Calls Tryz.prog 50 #[.pointer (some ⟨b,0,none⟩)] w fun e w'=>e= .returned (.string S)∧Below w.heap.size w w'):=Lib.hid fun w h=>by rw[hS];exact nextsign_any b w A n c l j h hf hj
 obtain⟨s1,s2⟩:=sgB l j S hS [41] false (by simp[hs]);have b1:((d:Int)==64)=false:=by simp;omega
 clear HK hS hs hf hj;go_enter Tryz.func74,Tryz.ntmps74;go_wp2_with (first | (go_at_call 31;go_must ((with_reducible refine(K.out _ (H1.out _)).mono ?_);rintro e w2 ⟨hg2,⟨A2,c2,rfl,hk2⟩,hr2⟩;have HB:=Lib.hid (boxr_of _ hlt hg2);have HR:=Lib.hid hr2;have HKD:=Lib.hid hk2;clear hg2 hr2 hk2)) | (go_at_call 50;go_must ((with_reducible refine(KS.out _ (HR.out.box _)).mono ?_);rintro e w3 ⟨rfl,hb3⟩;have HM:=Lib.hid (midr_of HB.out (by simp) HR.out HKD.out (hb3.mono (by simp)));clear hb3;obtain⟨d0,d1,d2,d3,d4,_⟩:=HM.out.box;obtain⟨e0,e1,e2,e3,e4⟩:=HM.out.box.freed;obtain⟨g0,g1,g2,g3,g4,_⟩:=HM.out.box2;have hr0:=HM.out.rd.c0;have hr1:=HM.out.rd.c1;have hr2:=HM.out.rd.f1;have hl1:=HM.out.lt;have hl2:=HM.out.lt2)));obtain⟨W3,hW3⟩:∃ W3,W3=put5 w3 w.heap.size (.int .i64 0) (.int .i64 0) (.string ⟨#[]⟩) (.string ⟨#[]⟩) (.slice none 0 0):=⟨_,rfl⟩;have HE:EndR b w W3 A n c l j (.int .i64 0) (.int .i64 0) (.string ⟨#[]⟩) (.string ⟨#[]⟩) (.slice none 0 0):=end_all hlt HM.out.box HM.out.grown HM.out.rd (by rw[hW3];exact Below.refl _ _);unfold put5 at hW3;rw[←hW3];clear hW3 d0 d1 d2 d3 d4;obtain⟨d0,d1,d2,d3,d4,_⟩:=HE.box;exact bodyPost_ret (v:= .tuple #[.agg #[.int .i64 0,.int .i64 0,.string ⟨#[]⟩,.string ⟨#[]⟩,.slice none 0 0],.int .i64 1]) (by simp[results,Tryz.results74,go_sem,d0,d1,d2,d3,d4]) rfl ⟨HE.grown,rfl,HE.rd⟩
end Go.Proofs.YthghbdeaenjckaaGreatDoor
