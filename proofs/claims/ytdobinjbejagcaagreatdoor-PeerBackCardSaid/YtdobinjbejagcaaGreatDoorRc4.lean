import Derived.BigQuiet
import Derived.Test.YtdobinjbejagcaaGreatDoorPr3
import Derived.Test.YtdobinjbejagcaaGreatDoorPd5
import Derived.Test.YtdobinjbejagcaaGreatDoorNLaid
import Derived.Test.YtdobinjbejagcaaGreatDoorPlainC
import Derived.Test.YtdobinjbejagcaaGreatDoorGlI
import Derived.Test.YtdobinjbejagcaaGreatDoorPd9
namespace Go.Proofs.YtdobinjbejagcaaGreatDoor
open Go Go.RowKit
set_option maxRecDepth 100000
set_option maxHeartbeats 2000000
section
structure NamR (b:Nat) (w:World) (vN:Value) (ns:List Bs):Prop where
 ex:(ns=[]∧∃ A c,vN= .slice A 0 c)∨∃ (g off cN:Nat),vN= .slice (some ⟨g,off,none⟩) ns.length cN∧g<b∧∀ j s,ns[j]?=some s→w.cell? ⟨g,off+j,none⟩=some (.string ⟨s.toArray⟩)
 few:ns.length≤100000
theorem NamR.keep {b:Nat} {w w':World} {vN:Value} {ns:List Bs} (h:NamR b w vN ns) (hb:Below b w w'):NamR b w' vN ns:=by
 refine⟨?_,h.few⟩
 rcases h.ex with h | ⟨g,off,cN,e,hg,hc⟩
 ·exact .inl h
 ·exact .inr ⟨g,off,cN,e,hg,fun j s hs=>(hb.cell (p:=⟨g,off+j,none⟩) hg).trans (hc j s hs)⟩
structure OwnM (b:Nat) (w:World) (o:Nat) (ms:List Bs) (vM:Value):Prop where
 ex:∃ xs:List Bs,w.ownsRow (b+1) 9 1 vM xs.length (strsP xs)∧(o=0→xs=ms)∧xs.length≤ms.length+o
def WrC (sf:Sf) (e p:Int):Prop:=match sf.head? with
 | none=>e=0
 | some y=>e=y.2∧p=(y.1:Int)∧e≠0
structure RdC (b:Nat) (w:World) (A:Option Addr) (n c:Nat) (l:List Tok) (vN:Value) (ns:List Bs) (k o:Nat) (sf:Sf) (ms:List Bs) (vM:Value):Prop where
 c0:w.cell? ⟨b,0,none⟩=some (.slice A n c)
 c1:w.cell? ⟨b,1,none⟩=some (.int .i64 k)
 c2:w.cell? ⟨b,2,none⟩=some (.int .i64 o)
 c3:w.cell? ⟨b,3,none⟩=some vN
 c4:w.cell? ⟨b,4,none⟩=some vM
 ey:∃ e p:Int,w.cell? ⟨b,5,none⟩=some (.int .i64 e)∧w.cell? ⟨b,6,none⟩=some (.int .i64 p)∧(o=0→WrC sf e p)
 fr:∀ j,j<7→w.frozen? ⟨b,j,none⟩=false
 own:OwnM b w o ms vM
 nam:NamR b w vN ns
 row:RdT b w A n l
 giv:∀ w',Below b w w'→Given w'
 fit:FitP l
 le:k≤n
 oks:o=0∨o=1
 few:n≤4000
section
variable {b:Nat} {w w':World} {A:Option Addr} {n c:Nat} {l:List Tok} {vN:Value} {ns:List Bs} {k o:Nat} {sf:Sf} {ms:List Bs} {vM:Value}
theorem OwnM.grown {row:Option Nat} (h:OwnM b w o ms vM) (hg:w.grownBy w' row) (h1:∀ g,row=some g→vM.ownBlock≠some g):OwnM b w' o ms vM:=by
 obtain⟨xs,r1,e1,e2⟩:=h.ex;refine⟨⟨xs,r1.kept hg ?_,e1,e2⟩⟩
 cases hv:vM.ownBlock with
 | none=>exact .inl rfl
 | some g=>exact .inr fun e=>h1 g e.symm hv
theorem OwnM.above (h:OwnM b w o ms vM):∀ g,vM.ownBlock=some g→b<g∧g<w.heap.size:=by
 obtain⟨xs,r1, -⟩:=h.ex;exact fun g hg=>by have:=r1.lt g hg;omega
theorem OwnM.box (h:OwnM b w o ms vM) (j:Nat) (u:Value):OwnM b (w.setCell ⟨b,j,none⟩ u) o ms vM:=
 h.grown (grnP_set b j w u) fun g hg=>by
  injection hg with hg
  subst hg;exact fun e=>absurd (h.above _ e).1 (Nat.lt_irrefl _)
theorem OwnM.fell {o':Nat} (h:OwnM b w o ms vM) (ho:o'=0→o=0) (ho2:o≤o'):OwnM b w o' ms vM:=by
 obtain⟨xs,r1,e1,e2⟩:=h.ex;exact⟨⟨xs,r1,fun e=>e1 (ho e),by omega⟩⟩
theorem RdC.lt (h:RdC b w A n c l vN ns k o sf ms vM):b<w.heap.size:=World.block_lt_of_cell? w _ h.c0
theorem RdC.len (h:RdC b w A n c l vN ns k o sf ms vM):n=l.length∧n≤4000:=⟨h.row.1,h.few⟩
theorem RdC.same (h:RdC b w A n c l vN ns k o sf ms vM) (hc:∀ j,w'.cell? ⟨b,j,none⟩=w.cell? ⟨b,j,none⟩) (hf:∀ j,j<7→w'.frozen? ⟨b,j,none⟩=w.frozen? ⟨b,j,none⟩) (hB:Below b w w') (ho:OwnM b w' o ms vM):RdC b w' A n c l vN ns k o sf ms vM:=by
 obtain⟨e,p,y5,y6,y7⟩:=h.ey;exact⟨(hc 0).trans h.c0,(hc 1).trans h.c1,(hc 2).trans h.c2,(hc 3).trans h.c3,(hc 4).trans h.c4,⟨e,p,(hc 5).trans y5,(hc 6).trans y6,y7⟩,fun j hj=>(hf j hj).trans (h.fr j hj),ho,h.nam.keep hB,h.row.keep hB,fun w2 h2=>h.giv w2 (hB.trans h2),h.fit,h.le,h.oks,h.few⟩
theorem RdC.low (h:RdC b w A n c l vN ns k o sf ms vM) (hB:Below w.heap.size w w'):RdC b w' A n c l vN ns k o sf ms vM:=
 h.same (fun j=>hB.cell (p:=⟨b,j,none⟩) h.lt) (fun j _=>hB.frozen (p:=⟨b,j,none⟩) h.lt) (hB.mono (Nat.le_of_lt h.lt)) (h.own.grown (row:=none) ⟨hB.os,hB.tape,hB.output,hB.size,fun k hk _=>hB.block k hk⟩ (by simp))
theorem RdC.other (h:RdC b w A n c l vN ns k o sf ms vM) {a:Addr} (ha:b<a.block) (h1:vM.ownBlock≠some a.block) (u:Value):RdC b (w.setCell a u) A n c l vN ns k o sf ms vM:=
 h.same (fun j=>World.cell?_setCell_other _ _ _ _ (fun e=>by rw[e] at ha;exact absurd ha (Nat.lt_irrefl _))) (fun j _=>World.frozen?_setCell ..) ((Below.refl b w).setCell (by omega) _)
  (h.own.grown (row:=some a.block) ⟨rfl,rfl,rfl,by simp[World.setCell],fun k _ hn=>Below.heap_setCell _ _ _ _ (fun e=>hn (by rw[e]))⟩ fun g hg=>by injection hg with hg;subst hg;exact h1)
theorem RdC.place (h:RdC b w A n c l vN ns k o sf ms vM) (j:Nat) (z:Int) (hz:z=j) (hj:j≤n):RdC b (w.setCell ⟨b,1,none⟩ (.int .i64 z)) A n c l vN ns j o sf ms vM:=by
 subst hz;have hB:Below b w (w.setCell ⟨b,1,none⟩ (.int .i64 j)):=(Below.refl b w).setCell (Nat.le_refl b) _;obtain⟨e,p,y5,y6,y7⟩:=h.ey;have ne:∀ i,1≠i→(w.setCell ⟨b,1,none⟩ (.int .i64 j)).cell? ⟨b,i,none⟩=w.cell? ⟨b,i,none⟩:=fun i hi=>setP_ne _ _ _ _ _ hi
 exact⟨(ne 0 (by decide)).trans h.c0,setP_same _ _ _ _ _ h.c1,(ne 2 (by decide)).trans h.c2,(ne 3 (by decide)).trans h.c3,(ne 4 (by decide)).trans h.c4,⟨e,p,(ne 5 (by decide)).trans y5,(ne 6 (by decide)).trans y6,y7⟩,fun i hi=>(World.frozen?_setCell ..).trans (h.fr i hi),h.own.box _ _,h.nam.keep hB,h.row.keep hB,fun w2 h2=>h.giv w2 (hB.trans h2),h.fit,hj,h.oks,h.few⟩
theorem RdC.fault (h:RdC b w A n c l vN ns k o sf ms vM):RdC b (w.setCell ⟨b,2,none⟩ (.int .i64 1)) A n c l vN ns k 1 sf ms vM:=by
 have hB:Below b w (w.setCell ⟨b,2,none⟩ (.int .i64 1)):=(Below.refl b w).setCell (Nat.le_refl b) _;obtain⟨e,p,y5,y6,y7⟩:=h.ey;have ne:∀ i,2≠i→(w.setCell ⟨b,2,none⟩ (.int .i64 1)).cell? ⟨b,i,none⟩=w.cell? ⟨b,i,none⟩:=fun i hi=>setP_ne _ _ _ _ _ hi
 have ho:=h.oks;exact⟨(ne 0 (by decide)).trans h.c0,(ne 1 (by decide)).trans h.c1,setP_same _ _ _ _ _ h.c2,(ne 3 (by decide)).trans h.c3,(ne 4 (by decide)).trans h.c4,⟨e,p,(ne 5 (by decide)).trans y5,(ne 6 (by decide)).trans y6,fun e=>by omega⟩,fun i hi=>(World.frozen?_setCell ..).trans (h.fr i hi),(h.own.box _ _).fell (by omega) (by omega),h.nam.keep hB,h.row.keep hB,fun w2 h2=>h.giv w2 (hB.trans h2),h.fit,h.le,.inr rfl,h.few⟩
theorem RdC.noted (h:RdC b w A n c l vN ns k o sf ms vM) (sf':Sf) (e p:Int) (hs:o=0→WrC sf' e p):RdC b ((w.setCell ⟨b,5,none⟩ (.int .i64 e)).setCell ⟨b,6,none⟩ (.int .i64 p)) A n c l vN ns k o sf' ms vM:=by
 have hB:Below b w ((w.setCell ⟨b,5,none⟩ (.int .i64 e)).setCell ⟨b,6,none⟩ (.int .i64 p)):=((Below.refl b w).setCell (Nat.le_refl b) _).setCell (Nat.le_refl b) _;obtain⟨e',p',y5,y6, -⟩:=h.ey
 have ne:∀ j,j≠5→j≠6→((w.setCell ⟨b,5,none⟩ (.int .i64 e)).setCell ⟨b,6,none⟩ (.int .i64 p)).cell? ⟨b,j,none⟩=w.cell? ⟨b,j,none⟩:=fun j h3 h4=>by
  rw[setP_ne _ _ _ _ _ (by omega),setP_ne _ _ _ _ _ (by omega)]
 refine⟨(ne 0 (by decide) (by decide)).trans h.c0,(ne 1 (by decide) (by decide)).trans h.c1,(ne 2 (by decide) (by decide)).trans h.c2,(ne 3 (by decide) (by decide)).trans h.c3,(ne 4 (by decide) (by decide)).trans h.c4,⟨e,p,?_,setP_same _ _ _ _ _ ((setP_ne _ _ _ _ _ (by omega)).trans y6),hs⟩,fun i hi=>?_,(h.own.box _ _).box _ _,h.nam.keep hB,h.row.keep hB,fun w2 h2=>h.giv w2 (hB.trans h2),h.fit,h.le,h.oks,h.few⟩
 ·rw[setP_ne _ _ _ _ _ (by omega)]
  exact setP_same _ _ _ _ _ y5
 ·rw[World.frozen?_setCell,World.frozen?_setCell];exact h.fr i hi
theorem RdC.noting (h:RdC b w A n c l vN ns k o sf ms vM) (sf':Sf) (hs:o=0→sf'.head?=sf.head?):RdC b w A n c l vN ns k o sf' ms vM:=by
 obtain⟨e,p,y5,y6,y7⟩:=h.ey;exact⟨h.c0,h.c1,h.c2,h.c3,h.c4,⟨e,p,y5,y6,fun o0=>by have:=y7 o0;unfold WrC at this ⊢;rw[hs o0];exact this⟩,h.fr,h.own,h.nam,h.row,h.giv,h.fit,h.le,h.oks,h.few⟩
end
def nxq (l:List Tok) (k o:Nat):Tok:=if o=0 then nxp l k else tokP0
def NextC (b:Nat) (w:World) (t:Tok) (e:Ending) (w':World):Prop:=∃ A c,e= .returned (.agg #[.int .i64 t.kind,.string ⟨t.word.toArray⟩,.int .i64 t.n,.slice A t.parts.length c,.int .i64 t.pl])∧Below w.heap.size w w'∧Rd b w A t.parts.length t.parts
theorem eqP_f {a b:Nat} (h:¬ a=b):((a:Int)==(b:Int))=false∧(a==b)=false∧((a:Int) != (b:Int))=true∧(a != b)=true:=by
 refine⟨?_,?_,?_,?_⟩ <;> simp <;> omega
theorem eqP_t {a b:Nat} (h:a=b):((a:Int)==(b:Int))=true∧(a==b)=true∧((a:Int) != (b:Int))=false∧(a != b)=false:=by subst h;simp
abbrev StepC (b:Nat) (w:World) (A:Option Addr) (n c:Nat) (l:List Tok) (vN:Value) (ns:List Bs) (k o:Nat) (sf:Sf) (ms:List Bs) (vM:Value) (w':World):Prop:=w.grownBy w' (some b)∧RdC b w' A n c l vN ns k o sf ms vM
section
variable {b:Nat} {w w':World} {A:Option Addr} {n c:Nat} {l:List Tok} {vN:Value} {ns:List Bs} {k o:Nat} {sf:Sf} {ms:List Bs} {vM:Value}
theorem cnext_fix (h:RdC b w A n c l vN ns k o sf ms vM):∃ A' c',Rd b w A' (nxq l k o).parts.length (nxq l k o).parts∧∀ w',Below w.heap.size w w'→Calls Tryz.prog 60 #[.pointer (some ⟨b,0,none⟩)] w' fun e w2=>
  e= .returned (.agg #[.int .i64 (nxq l k o).kind,.string ⟨(nxq l k o).word.toArray⟩,.int .i64 (nxq l k o).n,.slice A' (nxq l k o).parts.length c',.int .i64 (nxq l k o).pl])∧Below w'.heap.size w' w2:=by
 have hlen:=h.len;have row:=h.row;have le:=h.le;have H:=Lib.hid h;clear h;by_cases o0:o=0
 ·subst o0
  unfold nxq;rw[if_pos rfl];by_cases a:k<n
  ·obtain⟨t,ht⟩:∃ t,l[k]?=some t:=⟨_,List.getElem?_eq_getElem (by omega)⟩
   rw[nxp_at ht];obtain⟨ad,A',c',rfl,h5,hrd⟩:=row.at_ ht
   refine⟨A',c',hrd,fun w' hb=>?_⟩;obtain⟨y0,y1,y2,y3,y4⟩:=h5;have x0:=(hb.cell (World.block_lt_of_cell? w _ y0)).trans y0;have x1:=(hb.cell (World.block_lt_of_cell? w _ y1)).trans y1;have x2:=(hb.cell (World.block_lt_of_cell? w _ y2)).trans y2;have x3:=(hb.cell (World.block_lt_of_cell? w _ y3)).trans y3;have x4:=(hb.cell (World.block_lt_of_cell? w _ y4)).trans y4;have hbt:(ad.add (k * 5)).block<w'.heap.size:=World.block_lt_of_cell? w' _ x0;obtain⟨W,hW⟩:∃ W:ByteArray,W=⟨t.word.toArray⟩:=⟨_,rfl⟩;have h':=H.out.low hb;have hbl:=h'.lt;have c0:=h'.c0;have c1:=h'.c1;have c2:=h'.c2;rw[←hW] at x1 ⊢;generalize t.parts.length=m at x3 ⊢;obtain⟨b1,b2,b3,b4⟩:=eqP_f (show ¬ k=n by omega);have hk1:(k:Int)<n:=by omega
   clear hrd ht hW row hlen y0 y1 y2 y3 y4 h' hb H;go_enter Tryz.func60,Tryz.ntmps60;go_wp2;go_quiet (fail);go_wp2
   go_region
   go_wp2;refine bodyPost_ret (v:= .agg #[.int .i64 t.kind,.string W,.int .i64 t.n,.slice A' m c',.int .i64 t.pl]) (by simp[results,Tryz.results60,go_sem]) rfl ⟨rfl,?_⟩;exact box5_below (below_drewN (Below.refl _ _) _) _ _ _ _ _
  ·have hkn:k=n:=by omega
   rw[nxp_end (by omega)];unfold tokP0;refine⟨none,0,⟨rfl,fun h=>absurd h (by simp)⟩,fun w' hb=>?_⟩;have h':=H.out.low hb;have hbl:=h'.lt;have c0:=h'.c0;have c1:=h'.c1;have c2:=h'.c2;obtain⟨b1,b2,b3,b4⟩:=eqP_t hkn;clear row hlen hkn h' hb H;go_enter Tryz.func60,Tryz.ntmps60;go_wp2;go_quiet (fail);go_wp2;refine bodyPost_ret (v:= .agg #[.int .i64 0,.string ⟨#[]⟩,.int .i64 0,.slice none 0 0,.int .i64 0]) (by simp[results,Tryz.results60,go_sem]) rfl ⟨rfl,?_⟩;exact box5_below (below_drewN (Below.refl _ _) _) _ _ _ _ _
 ·unfold nxq
  rw[if_neg o0];unfold tokP0;refine⟨none,0,⟨rfl,fun h=>absurd h (by simp)⟩,fun w' hb=>?_⟩;have h':=H.out.low hb;have hbl:=h'.lt;have c0:=h'.c0;have c1:=h'.c1;have c2:=h'.c2;obtain⟨b1,b2,b3,b4⟩:=neqP0 o0;clear row o0 h' hb H;go_enter Tryz.func60,Tryz.ntmps60;go_wp2;go_quiet (fail);go_wp2;refine bodyPost_ret (v:= .agg #[.int .i64 0,.string ⟨#[]⟩,.int .i64 0,.slice none 0 0,.int .i64 0]) (by simp[results,Tryz.results60,go_sem]) rfl ⟨rfl,?_⟩;exact box5_below (below_drewN (Below.refl _ _) _) _ _ _ _ _
theorem cnext_any (h:RdC b w A n c l vN ns k o sf ms vM):Calls Tryz.prog 60 #[.pointer (some ⟨b,0,none⟩)] w (NextC b w (nxq l k o)):=by
 obtain⟨A',c',hr,hc⟩:=cnext_fix h;exact(hc w (Below.refl _ _)).mono fun e w' ⟨h1,h2⟩=>⟨A',c',h1,h2,hr⟩
theorem crefuse_any (h:RdC b w A n c l vN ns k o sf ms vM):Calls Tryz.prog 92 #[.pointer (some ⟨b,0,none⟩),.int .i64 1] w fun e w'=>e= .returned (.tuple #[])∧StepC b w A n c l vN ns k 1 sf ms vM w':=by
 have H:=Lib.hid h;have c2:=h.c2;have f2:=h.fr 2 (by decide)
 rcases h.oks with rfl | rfl
 ·clear h
  go_enter Tryz.func92,Tryz.ntmps92;go_wp2
  go_end0
  exact⟨rfl,grnP_set _ _ _ _,H.out.fault⟩
 ·clear h
  go_enter Tryz.func92,Tryz.ntmps92;go_wp2
  go_end0
  exact⟨rfl,grnP_below (Below.refl _ _),H.out⟩
end
end
section
section
variable {b:Nat} {w w':World} {A:Option Addr} {n c:Nat} {l:List Tok} {vN:Value} {ns:List Bs} {k o:Nat} {sf:Sf} {ms:List Bs} {vM:Value}
theorem cdemand_any (v:Bool) (er:Int) (her:er≠0) (h:RdC b w A n c l vN ns k o sf ms vM):Calls Tryz.prog 59 #[.pointer (some ⟨b,0,none⟩),.bool v,.int .i64 er] w fun e w'=>e= .returned (.tuple #[])∧StepC b w A n c l vN ns k o (sf++if v then [] else [(k,er)]) ms vM w':=by
 have H:=Lib.hid h
 cases v with
 | true=>
   rw[if_pos rfl,List.append_nil];clear h;go_enter Tryz.func59,Tryz.ntmps59;go_wp2
   go_end0
   exact⟨rfl,grnP_below (Below.refl _ _),H.out⟩
 | false=>
   rw[if_neg (by decide)];obtain⟨e,p,y5,y6,y7⟩:=h.ey;have Y:=Lib.hid y7;have c1:=h.c1;have f5:=h.fr 5 (by decide);have f6:=h.fr 6 (by decide);have HE:=Lib.hid her;clear h y7 her;by_cases e0:e=0
   ·subst e0
    go_enter Tryz.func59,Tryz.ntmps59;go_wp2
    go_end0
    refine⟨rfl,grnP_trans (grnP_set _ _ _ _) (grnP_set _ _ _ _),H.out.noted _ _ _ fun o0=>?_⟩;have:=Y.out o0;unfold WrC at this ⊢
    cases sf with
    | nil=>exact⟨rfl,rfl,HE.out⟩
    | cons y sf=>exact absurd rfl this.2.2
   ·have b1:(e==0)=false:=by simpa using e0
    have E0:=Lib.hid e0;clear e0;go_enter Tryz.func59,Tryz.ntmps59;go_wp2
    go_end0
    refine⟨rfl,grnP_below (Below.refl _ _),H.out.noting _ fun o0=>?_⟩;have:=Y.out o0;unfold WrC at this
    cases sf with
    | nil=>exact absurd this E0.out
    | cons y sf=>rfl
theorem cisnext_any (kd:Int) (hkd:kd≠0) (W:ByteArray) (h:RdC b w A n c l vN ns k o sf ms vM):
  Calls Tryz.prog 118 #[.pointer (some ⟨b,0,none⟩),.int .i64 kd,.string W] w fun e w'=>e= .returned (.bool (isOp l kd W.data.toList k o))∧Below w.heap.size w w':=by
 have K:=Lib.hid (cnext_any h)
 have hd:isOp l kd W.data.toList k o=decide ((nxq l k o).kind=kd∧(nxq l k o).word=W.data.toList):=by
  unfold isOp nxq;by_cases ho:o=0
  ·rw[if_pos ho,decide_eq_true ho];rfl
  ·rw[if_neg ho,decide_eq_false ho];exact(decide_eq_false fun e=>hkd e.1.symm).symm
 rw[hd];generalize nxq l k o=t at K ⊢;unfold NextC at K;obtain⟨S,hS⟩:∃ S:ByteArray,S=⟨t.word.toArray⟩:=⟨_,rfl⟩;rw[←hS] at K;obtain⟨v,hv⟩:∃ v,v=decide (t.kind=kd∧t.word=W.data.toList):=⟨_,rfl⟩;rw[←hv];by_cases e1:t.kind=kd
 ·rw[e1] at K
  have b1:(kd==kd)=true:=by simp
  by_cases e2:S=W
  ·have HV:Hid (v=true):=Lib.hid (by rw[hv];exact decide_eq_true ⟨e1,(bytesP_eq hS).2 e2⟩)
   subst e2;clear h hS hv e1 hd hkd;go_enter Tryz.func118,Tryz.ntmps118;go_wp2_with (go_at_call 60;go_must (((with_reducible refine K.out.mono ?_));rintro e w1 ⟨A1,c1,rfl,hb1,hr1⟩;have HB1:=Lib.hid hb1;clear hb1 hr1));go_ret;exact⟨by rw[HV.out];rfl,HB1.out.trans (((Below.refl _ _).alloc (Nat.le_refl _) _).mono HB1.out.size)⟩
  ·have HV:Hid (v=false):=Lib.hid (by rw[hv];exact decide_eq_false fun e=>e2 ((bytesP_eq hS).1 e.2))
   have b2:(S.toList==W.toList)=false:=toListP_ne e2;clear h hS hv e1 e2 hd hkd;go_enter Tryz.func118,Tryz.ntmps118;go_wp2_with (go_at_call 60;go_must (((with_reducible refine K.out.mono ?_));rintro e w1 ⟨A1,c1,rfl,hb1,hr1⟩;have HB1:=Lib.hid hb1;clear hb1 hr1));go_ret;exact⟨by rw[HV.out];rfl,HB1.out.trans (((Below.refl _ _).alloc (Nat.le_refl _) _).mono HB1.out.size)⟩
 ·have HV:Hid (v=false):=Lib.hid (by rw[hv];exact decide_eq_false fun e=>e1 e.1)
  generalize t.kind=x at K e1;have b1:(x==kd)=false:=by simpa using e1
  clear h hS hv e1 hd hkd;go_enter Tryz.func118,Tryz.ntmps118;go_wp2_with (go_at_call 60;go_must (((with_reducible refine K.out.mono ?_));rintro e w1 ⟨A1,c1,rfl,hb1,hr1⟩;have HB1:=Lib.hid hb1;clear hb1 hr1));go_ret;exact⟨by rw[HV.out];rfl,HB1.out.trans (((Below.refl _ _).alloc (Nat.le_refl _) _).mono HB1.out.size)⟩
theorem ctake_any (kd:Int) (hkd:kd≠0) (W:ByteArray) (h:RdC b w A n c l vN ns k o sf ms vM):
  Calls Tryz.prog 91 #[.pointer (some ⟨b,0,none⟩),.int .i64 kd,.string W] w fun e w'=>e= .returned (.bool (isOp l kd W.data.toList k o))∧StepC b w A n c l vN ns (if isOp l kd W.data.toList k o=true then k+1 else k) o sf ms vM w':=by
 have K:=Lib.hid (cisnext_any kd hkd W h);have H:=Lib.hid h;have hl:=h.len;have hle:=h.le
 cases hv:isOp l kd W.data.toList k o with
 | true=>
   have hk:=(isOp_lt hkd hv).2.2;have HK:Hid (k+1≤n):=Lib.hid (by omega);have hk2:k≤1000000:=by omega
   rw[hv] at K;clear h hv hkd hk hl hle;go_enter Tryz.func91,Tryz.ntmps91;go_wp2_with (go_at_call 118;go_must (((with_reducible refine K.out.mono ?_));rintro e w1 ⟨rfl,hb1⟩;have HB1:=Lib.hid hb1;have h1:=H.out.low hb1;have H1:=Lib.hid h1;have c1:=h1.c1;have f1:=h1.fr 1 (by decide);clear hb1 h1));go_ret;exact⟨rfl,grnP_trans (grnP_below HB1.out) (grnP_set _ _ _ _),H1.out.place (k+1) ((k:Int)+1) (by omega) HK.out⟩
 | false=>
   rw[hv] at K;clear h hv hkd hl hle;go_enter Tryz.func91,Tryz.ntmps91;go_wp2_with (go_at_call 118;go_must (((with_reducible refine K.out.mono ?_));rintro e w1 ⟨rfl,hb1⟩;have HB1:=Lib.hid hb1;clear hb1));go_ret;exact⟨rfl,grnP_below HB1.out,H.out.low HB1.out⟩
theorem StepC.trans {w1 w2:World} {k' o':Nat} {sf':Sf} (h:StepC b w A n c l vN ns k o sf ms vM w1) (h':StepC b w1 A n c l vN ns k' o' sf' ms vM w2):StepC b w A n c l vN ns k' o' sf' ms vM w2:=⟨grnP_trans h.1 h'.1,h'.2⟩
end
section
variable (b:Nat) (A:Option Addr) (n c:Nat) (l:List Tok) (vN:Value) (ns:List Bs) (sf:Sf) (ms:List Bs) (vM:Value)
abbrev NextK (k o:Nat) (t:Tok):Prop:=Hid (∀ w',RdC b w' A n c l vN ns k o sf ms vM→Calls Tryz.prog 60 #[.pointer (some ⟨b,0,none⟩)] w' fun e w2=>
 ∃ A' c',e= .returned (.agg #[.int .i64 t.kind,.string ⟨t.word.toArray⟩,.int .i64 t.n,.slice A' t.parts.length c',.int .i64 t.pl])∧Below w'.heap.size w' w2∧Rd b w' A' t.parts.length t.parts)
theorem nextK (k o:Nat):NextK b A n c l vN ns sf ms vM k o (nxq l k o):=Lib.hid fun _ h=>cnext_any h
abbrev RefK (k o:Nat):Prop:=Hid (∀ w',RdC b w' A n c l vN ns k o sf ms vM→Calls Tryz.prog 92 #[.pointer (some ⟨b,0,none⟩),.int .i64 1] w' fun e w2=>e= .returned (.tuple #[])∧StepC b w' A n c l vN ns k 1 sf ms vM w2)
theorem refK (k o:Nat):RefK b A n c l vN ns sf ms vM k o:=Lib.hid fun _ h=>crefuse_any h
abbrev TakK (kd:Int) (W:ByteArray) (k o:Nat) (v:Bool) (k2:Nat):Prop:=Hid (∀ w',RdC b w' A n c l vN ns k o sf ms vM→Calls Tryz.prog 91 #[.pointer (some ⟨b,0,none⟩),.int .i64 kd,.string W] w' fun e w2=>e= .returned (.bool v)∧StepC b w' A n c l vN ns k2 o sf ms vM w2)
theorem takK (kd:Int) (hkd:kd≠0) (W:ByteArray) (k o:Nat) {v:Bool} (hv:isOp l kd W.data.toList k o=v):TakK b A n c l vN ns sf ms vM kd W k o v (if v=true then k+1 else k):=Lib.hid fun _ h=>by
 have:=ctake_any kd hkd W h;rw[hv] at this;exact this
end
section
variable {b:Nat} {w w':World} {A:Option Addr} {n c:Nat} {l:List Tok} {vN:Value} {ns:List Bs} {k o:Nat} {sf:Sf} {ms:List Bs} {vM:Value}
theorem cneed_any (kd:Int) (hkd:kd≠0) (W:ByteArray) (h:RdC b w A n c l vN ns k o sf ms vM):
  Calls Tryz.prog 58 #[.pointer (some ⟨b,0,none⟩),.int .i64 kd,.string W] w fun e w'=>e= .returned (.tuple #[])∧StepC b w A n c l vN ns (gateR o k (needP l kd W.data.toList k)).at (gateR o k (needP l kd W.data.toList k)).err sf ms vM w':=by
 have H:=Lib.hid h
 cases hv:isOp l kd W.data.toList k o with
 | true=>
   have K:=takK b A n c l vN ns sf ms vM kd hkd W k o hv;obtain⟨rfl,h2,_⟩:=isOp_lt hkd hv;have e1:gateR 0 k (needP l kd W.data.toList k)= .ok () (k+1) [] []:=by unfold gateR needP;rw[if_pos rfl,if_pos h2]
   rw[e1];show Calls _ _ _ _ fun e w'=>e= .returned (.tuple #[])∧StepC b w A n c l vN ns (k+1) 0 sf ms vM w'
   rw[if_pos rfl] at K;clear h hv h2 e1;go_enter Tryz.func58,Tryz.ntmps58;go_wp2_with (go_at_call 91;go_must (((with_reducible refine(K.out _ H.out).mono ?_));rintro e w1 ⟨rfl,hb1⟩;have HB1:=Lib.hid hb1;clear hb1))
   go_end0
   exact⟨rfl,HB1.out⟩
 | false=>
   have K:=takK b A n c l vN ns sf ms vM kd hkd W k o hv
   have e1:gateR o k (needP l kd W.data.toList k)= .bad k:=by
    unfold gateR
    split
    ·rename_i ho
     subst ho;unfold needP;rw[if_neg (by rw[←isOp_zero,hv];decide)]
    ·rfl
   rw[e1];show Calls _ _ _ _ fun e w'=>e= .returned (.tuple #[])∧StepC b w A n c l vN ns k 1 sf ms vM w'
   rw[if_neg (by decide)] at K;have KR:=refK b A n c l vN ns sf ms vM k o;clear h hv e1;go_enter Tryz.func58,Tryz.ntmps58;go_wp2_with (first | (go_at_call 91;go_must (((with_reducible refine(K.out _ H.out).mono ?_));rintro e w1 ⟨rfl,hb1⟩;have HB1:=Lib.hid hb1;clear hb1)) | (go_at_call 92;go_must (((with_reducible refine(KR.out _ HB1.out.2).mono ?_));rintro e w2 ⟨rfl,hs2⟩;have HB2:=Lib.hid hs2;clear hs2)))
   go_end0
   exact⟨rfl,HB1.out.trans HB2.out⟩
end
end
section
structure Cyc (b:Nat) (w W:World) (A:Option Addr) (n c:Nat) (l:List Tok) (vN:Value) (ns:List Bs) (k o:Nat) (sf:Sf) (ms:List Bs) (vM:Value) (bs:List (Nat × List Value)):Prop where
 lt:b<w.heap.size
 rd:RdC b W A n c l vN ns k o sf ms vM
 gr:w.grownBy W (some b)
 bx:∀ x∈bs,w.heap.size≤x.1∧0<x.2.length∧BoxP W x.1 x.2
 ap:bs.Pairwise fun x y=>y.1<x.1
 se:∀ x∈bs,vM.ownBlock≠some x.1
section
variable {b:Nat} {w W W':World} {A:Option Addr} {n c:Nat} {l:List Tok} {vN:Value} {ns:List Bs} {k o k' o':Nat} {sf:Sf} {ms:List Bs} {vM:Value} {bs:List (Nat × List Value)}
theorem Cyc.start (h:RdC b w A n c l vN ns k o sf ms vM):Cyc b w w A n c l vN ns k o sf ms vM []:=⟨h.lt,h,grnP_below (Below.refl _ _),by simp,List.Pairwise.nil,by simp⟩
theorem Cyc.alloc (h:Cyc b w W A n c l vN ns k o sf ms vM bs) (T:TypeId) (vs:List Value) (hv:0<vs.length):Cyc b w (W.alloc (.cells vs.toArray T)) A n c l vN ns k o sf ms vM ((W.heap.size,vs)::bs):=by
 have hb:Below W.heap.size W (W.alloc (.cells vs.toArray T)):=(Below.refl _ _).alloc (Nat.le_refl _) _;refine⟨h.lt,h.rd.low hb,grnP_trans h.gr (grnP_below hb),fun x hx=>?_,List.Pairwise.cons (fun x hx=>(h.bx x hx).2.2.lt (h.bx x hx).2.1) h.ap,fun x hx=>?_⟩
 ·rcases List.mem_cons.1 hx with rfl | hx
  ·exact⟨h.gr.size,hv,BoxP.new _ _ _⟩
  ·obtain⟨h1,h2,h3⟩:=h.bx x hx
   exact⟨h1,h2,h3.low h2 hb⟩
 ·rcases List.mem_cons.1 hx with rfl | hx
  ·exact fun e=>absurd (h.rd.own.above _ e).2 (Nat.lt_irrefl _)
  ·exact h.se x hx
theorem Cyc.call {sf':Sf} (h:Cyc b w W A n c l vN ns k o sf ms vM bs) (hs:StepC b W A n c l vN ns k' o' sf' ms vM W'):Cyc b w W' A n c l vN ns k' o' sf' ms vM bs:=
 ⟨h.lt,hs.2,grnP_trans h.gr hs.1,fun x hx=>by
  obtain⟨h1,h2,h3⟩:=h.bx x hx;exact⟨h1,h2,h3.grown h2 hs.1 (by have:=h.lt;omega)⟩,h.ap,h.se⟩
theorem Cyc.below (h:Cyc b w W A n c l vN ns k o sf ms vM bs) (hb:Below W.heap.size W W'):Cyc b w W' A n c l vN ns k o sf ms vM bs:=h.call ⟨grnP_below hb,h.rd.low hb⟩
theorem Cyc.put (h:Cyc b w W A n c l vN ns k o sf ms vM bs) (i:Nat) (q:Nat) (vs:List Value) (hi:bs[i]?=some (q,vs)) (j:Nat) (hj:j<vs.length) (u:Value):Cyc b w (W.setCell ⟨q,j,none⟩ u) A n c l vN ns k o sf ms vM (bs.set i (q,vs.set j u)):=by
 have hm:=List.mem_of_getElem? hi;obtain⟨q1,q2,q3⟩:=h.bx _ hm;dsimp only at q1 q2 q3;have hlt:=h.lt;have hil:=(List.getElem?_eq_some_iff.1 hi).1;have hei:=(List.getElem?_eq_some_iff.1 hi).2;have ap:=h.ap;have hse:=h.se _ hm;refine⟨h.lt,h.rd.other (a:=⟨q,j,none⟩) (by show b<q;omega) hse _,grnP_setc h.gr q1 _ _,fun x hx=>?_,?_,fun x hx=>?_⟩
 ·obtain⟨m,hm,e⟩:=List.getElem_of_mem hx
  by_cases c:i=m
  ·subst c
   rw[List.getElem_set_self] at e;subst e;exact⟨q1,by simpa using q2,q3.set j hj u⟩
  ·rw[List.getElem_set_ne c] at e
   rw[List.length_set] at hm;obtain⟨h1,h2,h3⟩:=h.bx x (e ▸ List.getElem_mem hm);refine⟨h1,h2,h3.other (a:=⟨q,j,none⟩) ?_ _⟩;show q≠x.1;rw[List.pairwise_iff_getElem] at ap
   rcases Nat.lt_or_gt_of_ne c with c | c
   ·have:=ap i m hil hm c
    rw[hei,e] at this;dsimp only at this;omega
   ·have:=ap m i hm hil c
    rw[hei,e] at this;dsimp only at this;omega
 ·rw[List.pairwise_iff_getElem] at ap ⊢
  intro i1 i2 h1 h2 h12;rw[List.length_set] at h1 h2;have:=ap i1 i2 h1 h2 h12
  have key:∀ m (hm:m<bs.length) (hm':m<(bs.set i (q,vs.set j u)).length),((bs.set i (q,vs.set j u))[m]).1=(bs[m]).1:=by
   intro m hm hm';by_cases c:i=m
   ·subst c;rw[List.getElem_set_self,hei]
   ·rw[List.getElem_set_ne c]
  rw[key _ h1 _,key _ h2 _];exact this
 ·obtain⟨m,hm,e⟩:=List.getElem_of_mem hx
  by_cases c:i=m
  ·subst c
   rw[List.getElem_set_self] at e;subst e;exact hse
  ·rw[List.getElem_set_ne c] at e
   rw[List.length_set] at hm;exact h.se x (e ▸ List.getElem_mem hm)
theorem Cyc.place (h:Cyc b w W A n c l vN ns k o sf ms vM bs) (j:Nat) (z:Int) (hz:z=j) (hj:j≤n):Cyc b w (W.setCell ⟨b,1,none⟩ (.int .i64 z)) A n c l vN ns j o sf ms vM bs:=
 h.call ⟨grnP_set _ _ _ _,h.rd.place j z hz hj⟩
theorem Cyc.put5 (h:Cyc b w W A n c l vN ns k o sf ms vM bs) (i q:Nat) (u0 u1 u2 u3 u4:Value) (hi:bs[i]?=some (q,[u0,u1,u2,u3,u4])) (v0 v1 v2 v3 v4:Value):Cyc b w (((((W.setCell ⟨q,0,none⟩ v0).setCell ⟨q,1,none⟩ v1).setCell ⟨q,2,none⟩ v2).setCell ⟨q,3,none⟩ v3).setCell ⟨q,4,none⟩ v4) A n c l vN ns k o sf ms vM (bs.set i (q,[v0,v1,v2,v3,v4])):=by
 have hl:=(List.getElem?_eq_some_iff.1 hi).1;have e:∀ x:Nat × List Value,(bs.set i x)[i]?=some x:=fun x=>List.getElem?_set_self hl
 have h0:=h.put i q _ hi 0 (by simp) v0;have h1:=h0.put i q _ (e _) 1 (by simp) v1;have h2:=h1.put i q _ (by rw[List.set_set];exact e _) 2 (by simp) v2;have h3:=h2.put i q _ (by rw[List.set_set,List.set_set];exact e _) 3 (by simp) v3;have h4:=h3.put i q _ (by rw[List.set_set,List.set_set,List.set_set];exact e _) 4 (by simp) v4;rw[List.set_set,List.set_set,List.set_set,List.set_set] at h4;exact h4
theorem Cyc.drew (h:Cyc b w W A n c l vN ns k o sf ms vM bs):Cyc b w W.drew A n c l vN ns k o sf ms vM bs:=h.below ((Below.refl _ _).drew)
theorem Cyc.step (h:Cyc b w W A n c l vN ns k o sf ms vM bs):StepC b w A n c l vN ns k o sf ms vM W:=⟨h.gr,h.rd⟩
theorem Cyc.box (h:Cyc b w W A n c l vN ns k o sf ms vM bs) (i q:Nat) (vs:List Value) (hi:bs[i]?=some (q,vs)):BoxP W q vs:=(h.bx _ (List.mem_of_getElem? hi)).2.2
theorem Cyc.has (h:Cyc b w W A n c l vN ns k o sf ms vM bs) (i q:Nat) (vs:List Value) (hi:bs[i]?=some (q,vs)):w.heap.size≤q∧q<W.heap.size:=⟨(h.bx _ (List.mem_of_getElem? hi)).1,(h.box i q vs hi).lt (h.bx _ (List.mem_of_getElem? hi)).2.1⟩
theorem Cyc.two {q q':Nat} {vs vs':List Value} (h:Cyc b w W A n c l vN ns k o sf ms vM ((q,vs)::(q',vs')::bs)):b<w.heap.size∧w.heap.size≤q'∧q'<q∧q<W.heap.size:=
 ⟨h.lt,(h.has 1 q' vs' rfl).1,(List.pairwise_cons.1 h.ap).1 (q',vs') (by simp),(h.has 0 q vs rfl).2⟩
end
theorem tkF1 (k n pl:Int) (S:ByteArray) (A:Option Addr) (m c:Nat) (w:World):(Instr.field 48 (.agg #[.int .i64 k,.string S,.int .i64 n,.slice A m c,.int .i64 pl]) 1).run Tryz.prog w= .ok (.string S) w:=by kernel_rfl
theorem tkF2 (k n pl:Int) (S:ByteArray) (A:Option Addr) (m c:Nat) (w:World):(Instr.field 48 (.agg #[.int .i64 k,.string S,.int .i64 n,.slice A m c,.int .i64 pl]) 2).run Tryz.prog w= .ok (.int .i64 n) w:=by kernel_rfl
theorem tkF3 (k n pl:Int) (S:ByteArray) (A:Option Addr) (m c:Nat) (w:World):(Instr.field 48 (.agg #[.int .i64 k,.string S,.int .i64 n,.slice A m c,.int .i64 pl]) 3).run Tryz.prog w= .ok (.slice A m c) w:=by kernel_rfl
def TokC (b:Nat) (w:World) (A:Option Addr) (n c:Nat) (l:List Tok) (vN:Value) (ns:List Bs) (sf:Sf) (ms:List Bs) (vM:Value) (R:Rp Tok) (e:Ending) (w':World):Prop:=
 ∃ t A' c',e= .returned (.agg #[.int .i64 t.kind,.string ⟨t.word.toArray⟩,.int .i64 t.n,.slice A' t.parts.length c',.int .i64 t.pl])∧StepC b w A n c l vN ns R.at R.err sf ms vM w'∧∀ y j s g,R= .ok y j s g→y=t
section
variable {b:Nat} {w w':World} {A:Option Addr} {n c:Nat} {l:List Tok} {vN:Value} {ns:List Bs} {k o:Nat} {sf:Sf} {ms:List Bs} {vM:Value}
theorem cneedkind_any (kd:Int) (hkd:kd≠0) (h:RdC b w A n c l vN ns k o sf ms vM):
  Calls Tryz.prog 61 #[.pointer (some ⟨b,0,none⟩),.int .i64 kd] w (TokC b w A n c l vN ns sf ms vM (gateR o k (takeP l kd k))):=by
 have K:=nextK b A n c l vN ns sf ms vM k o;have H:=Lib.hid (Cyc.start h);have hle:=h.le;have hl:=h.len;by_cases e1:(nxq l k o).kind=kd
 ·have ho:o=0:=by
   by_cases ho:o=0
   ·exact ho
   ·unfold nxq at e1;rw[if_neg ho] at e1;exact absurd e1.symm hkd
  subst ho;have eR:gateR 0 k (takeP l kd k)= .ok (nxq l k 0) (k+1) [] []:=by unfold gateR;rw[if_pos rfl];exact if_pos e1
  have hk:k<l.length:=nxp_lt (by show (nxq l k 0).kind≠0;rw[e1];exact hkd);have HK:Hid (k+1≤n):=Lib.hid (by omega);have hk2:k≤1000000:=by omega
  rw[eR];generalize nxq l k 0=t at K e1 ⊢
  suffices hs:Calls Tryz.prog 61 #[.pointer (some ⟨b,0,none⟩),.int .i64 kd] w fun e w'=>∃ A' c',e= .returned (.agg #[.int .i64 t.kind,.string ⟨t.word.toArray⟩,.int .i64 t.n,.slice A' t.parts.length c',.int .i64 t.pl])∧StepC b w A n c l vN ns (k+1) 0 sf ms vM w' from
   hs.mono fun e w' ⟨A',c',h1,h2⟩=>⟨t,A',c',h1,h2,fun y j s g hy=>by injection hy with hy;exact hy.symm⟩
  obtain⟨S,hS⟩:∃ S:ByteArray,S=⟨t.word.toArray⟩:=⟨_,rfl⟩;unfold NextK at K;rw[←hS] at K ⊢;rw[e1] at K ⊢;have b1:(kd != kd)=false:=by simp
  clear h hkd hl hle hk eR e1 hS;go_enter Tryz.func61,Tryz.ntmps61;go_wp2_with (go_at_call 60;go_must (((with_reducible refine(K.out _ (H.out.alloc 48 zeroTk (by simp)).rd).mono ?_));rintro e w1 ⟨A1,c1,rfl,hb1,hr1⟩;have HC:=Lib.hid (((H.out.alloc 48 zeroTk (by simp)).below hb1).alloc 48 [.int .i64 kd,.string S,.int .i64 t.n,.slice A1 t.parts.length c1,.int .i64 t.pl] (by simp));have d1:=HC.out.rd.c1;have d1f:=HC.out.rd.fr 1 (by decide);obtain⟨q0,q1,q2,q3⟩:=HC.out.two;obtain⟨g0,g1,g2,g3,g4⟩:=(HC.out.box 1 w.heap.size zeroTk rfl).all5;obtain⟨j0,j1,j2,j3,j4⟩:=(HC.out.box 1 w.heap.size zeroTk rfl).fre5;clear hb1 hr1));have HE:=(HC.out.place (k+1) ((k:Int)+1) (by omega) HK.out).put5 1 w.heap.size _ _ _ _ _ rfl (.int .i64 kd) (.string S) (.int .i64 t.n) (.slice A1 t.parts.length c1) (.int .i64 t.pl);obtain⟨r0,r1,r2,r3,r4⟩:=(HE.box 1 w.heap.size _ rfl).all5;refine bodyPost_ret (v:= .agg #[.int .i64 kd,.string S,.int .i64 t.n,.slice A1 t.parts.length c1,.int .i64 t.pl]) (by simp[results,Tryz.results61,go_sem,r0,r1,r2,r3,r4]) rfl ⟨A1,c1,rfl,?_⟩;exact HE.step
 ·have eR:gateR o k (takeP l kd k)= .bad k:=by
   unfold gateR
   split
   ·rename_i ho;subst ho;exact if_neg e1
   ·rfl
  rw[eR]
  suffices hs:Calls Tryz.prog 61 #[.pointer (some ⟨b,0,none⟩),.int .i64 kd] w fun e w'=>e= .returned (.agg #[.int .i64 0,.string ⟨#[]⟩,.int .i64 0,.slice none 0 0,.int .i64 0])∧StepC b w A n c l vN ns k 1 sf ms vM w' from
   hs.mono fun e w' ⟨h1,h2⟩=>⟨tokP0,none,0,h1,h2,fun y j s g hy=>by cases hy⟩
  have KR:=refK b A n c l vN ns sf ms vM k o;generalize nxq l k o=t at K e1;unfold NextK at K;generalize t.kind=x at K e1;have b1:(x != kd)=true:=by simpa using e1
  clear h hkd hl hle eR e1;go_enter Tryz.func61,Tryz.ntmps61;go_wp2_with (first | (go_at_call 60;go_must (((with_reducible refine(K.out _ (H.out.alloc 48 zeroTk (by simp)).rd).mono ?_));rintro e w1 ⟨A1,c1,rfl,hb1,hr1⟩;have HC:=Lib.hid (((H.out.alloc 48 zeroTk (by simp)).below hb1).alloc 48 [.int .i64 x,.string ⟨t.word.toArray⟩,.int .i64 t.n,.slice A1 t.parts.length c1,.int .i64 t.pl] (by simp));clear hb1 hr1)) | (go_at_call 92;go_must (((with_reducible refine(KR.out _ HC.out.rd).mono ?_));rintro e w2 ⟨rfl,hs2⟩;have HD:=Lib.hid (HC.out.call hs2);obtain⟨q0,q1,q2,q3⟩:=HD.out.two;obtain⟨g0,g1,g2,g3,g4⟩:=(HD.out.box 1 w.heap.size zeroTk rfl).all5;obtain⟨j0,j1,j2,j3,j4⟩:=(HD.out.box 1 w.heap.size zeroTk rfl).fre5;clear hs2)));have HE:=HD.out.put5 1 w.heap.size _ _ _ _ _ rfl (.int .i64 0) (.string ⟨#[]⟩) (.int .i64 0) (.slice none 0 0) (.int .i64 0);obtain⟨r0,r1,r2,r3,r4⟩:=(HE.box 1 w.heap.size _ rfl).all5;exact bodyPost_ret (v:= .agg #[.int .i64 0,.string ⟨#[]⟩,.int .i64 0,.slice none 0 0,.int .i64 0]) (by simp[results,Tryz.results61,go_sem,r0,r1,r2,r3,r4]) rfl ⟨rfl,HE.step⟩
end
section
variable (b:Nat) (A:Option Addr) (n c:Nat) (l:List Tok) (vN:Value) (ns:List Bs) (sf:Sf) (ms:List Bs) (vM:Value)
abbrev KindK (kd:Int) (k o:Nat) (R:Rp Tok):Prop:=Hid (∀ w',RdC b w' A n c l vN ns k o sf ms vM→Calls Tryz.prog 61 #[.pointer (some ⟨b,0,none⟩),.int .i64 kd] w' fun e w2=>∃ t A' c',e= .returned (.agg #[.int .i64 t.kind,.string ⟨t.word.toArray⟩,.int .i64 t.n,.slice A' t.parts.length c',.int .i64 t.pl])∧StepC b w' A n c l vN ns R.at R.err sf ms vM w2∧∀ y j s g,R= .ok y j s g→y=t)
theorem kindK (kd:Int) (hkd:kd≠0) (k o:Nat):KindK b A n c l vN ns sf ms vM kd k o (gateR o k (takeP l kd k)):=Lib.hid fun _ h=>cneedkind_any kd hkd h
end
section
variable {b:Nat} {w w':World} {A:Option Addr} {n c:Nat} {l:List Tok} {vN:Value} {ns:List Bs} {k o:Nat} {sf:Sf} {ms:List Bs} {vM:Value}
def StrC (b:Nat) (w:World) (A:Option Addr) (n c:Nat) (l:List Tok) (vN:Value) (ns:List Bs) (sf:Sf) (ms:List Bs) (vM:Value) (R:Rp Bs) (e:Ending) (w':World):Prop:=
 ∃ s:Bs,e= .returned (.string ⟨s.toArray⟩)∧StepC b w A n c l vN ns R.at R.err sf ms vM w'∧∀ y j z g,R= .ok y j z g→y=s
theorem nxq_fit (hf:FitP l) (k o:Nat):(nxq l k o).word.length≤100000∧may false (nxq l k o).parts=true∧(nxq l k o).parts.length≤100000∧∀ p∈(nxq l k o).parts,p.2.length≤100000:=by
 have hz:tokP0.word.length≤100000∧may false tokP0.parts=true∧tokP0.parts.length≤100000∧∀ p∈tokP0.parts,p.2.length≤100000:=⟨by decide,rfl,by decide,by simp[tokP0]⟩;unfold nxq
 split
 ·by_cases c:k<l.length
  ·rw[nxp_at (List.getElem?_eq_getElem c)]
   have ho:=hf.ok _ (List.getElem_mem c);have hft:=hf.fit _ (List.getElem_mem c);generalize l[k]=t at ho hft;refine⟨hft.word,?_,hft.parts,hft.texts⟩;unfold okT at ho
   split at ho
   ·simp at ho;rw[ho.2];rfl
   ·split at ho
    ·simp at ho;exact ho.2
    ·simp at ho;rw[ho.2];rfl
  ·rw[nxp_end c];exact hz
 ·exact hz
theorem cname_any (h:RdC b w A n c l vN ns k o sf ms vM):
  Calls Tryz.prog 94 #[.pointer (some ⟨b,0,none⟩)] w (StrC b w A n c l vN ns sf ms vM (gateR o k (nameP l k))):=by
 have K:=nextK b A n c l vN ns sf ms vM k o;have H:=Lib.hid (Cyc.start h);have KR:=refK b A n c l vN ns sf ms vM k o;have hw:=(nxq_fit h.fit k o).1
 have KN:Hid (∀ w',Calls Tryz.prog 52 #[.string ⟨(nxq l k o).word.toArray⟩] w' fun e w2=>e= .returned (.bool (isName (nxq l k o).word))∧w'=w2):=Lib.hid fun w'=>by
  have:=name_any ⟨(nxq l k o).word.toArray⟩ (by simp[ByteArray.size];omega) w';simpa using this
 have KK:∀ o,KindK b A n c l vN ns sf ms vM 1 k o (gateR o k (takeP l 1 k)):=fun o=>kindK b A n c l vN ns sf ms vM 1 (by decide) k o
 have tf:=tkF1
 cases hn:isName (nxq l k o).word with
 | true=>
   have ho:o=0:=by
    by_cases ho:o=0
    ·exact ho
    ·unfold nxq at hn;rw[if_neg ho] at hn;exact absurd hn (by decide)
   subst ho
   have eR:gateR 0 k (nameP l k)=(takeP l 1 k).then fun t j=> .ok t.word j [] []:=by
    unfold gateR nameP takeP;rw[if_pos rfl];by_cases c:(nxp l k).kind=1
    ·rw[if_pos ⟨c,hn⟩,if_pos c];rfl
    ·rw[if_neg (fun e=>c e.1),if_neg c];rfl
   have KK:=KK 0;have eT:gateR 0 k (takeP l 1 k)=takeP l 1 k:=rfl;rw[eT] at KK;rw[eR];rw[hn] at KN;clear KR eR hn h hw eT
   suffices hs:Calls Tryz.prog 94 #[.pointer (some ⟨b,0,none⟩)] w fun e w'=>∃ t:Tok,e= .returned (.string ⟨t.word.toArray⟩)∧StepC b w A n c l vN ns (takeP l 1 k).at (takeP l 1 k).err sf ms vM w'∧∀ y j s g,takeP l 1 k= .ok y j s g→y=t from
    hs.mono fun e w' ⟨t,h1,h2,h3⟩=>by
     refine⟨t.word,h1,?_,fun y j z g hy=>?_⟩
     ·cases hT:takeP l 1 k with
      | bad j=>rw[hT] at h2;exact h2
      | ok y j s g=>rw[hT] at h2;exact h2
     ·cases hT:takeP l 1 k with
      | bad j=>rw[hT] at hy;cases hy
      | ok y' j' s' g'=>
        have:=h3 _ _ _ _ hT;rw[hT] at hy;injection hy with hy
        rw[←hy,this]
   generalize takeP l 1 k=R at KK ⊢;generalize nxq l k 0=t0 at K KN;go_enter Tryz.func94,Tryz.ntmps94;go_wp2_with (first | (go_at_call 60;go_must (((with_reducible refine(K.out _ H.out.rd).mono ?_));rintro e w1 ⟨A1,c1,rfl,hb1,hr1⟩;have HC:=Lib.hid (H.out.below hb1);clear hb1 hr1)) | (go_at_call 52;go_must (((with_reducible refine(KN.out _).mono ?_));rintro e w2 ⟨rfl,rfl⟩)) | (go_at_call 61;go_must (((with_reducible refine(KK.out _ HC.out.rd).mono ?_));rintro e w2 ⟨t,A2,c2,rfl,hs2,hv2⟩;have HD:=Lib.hid (HC.out.call hs2);have HV:=Lib.hid hv2;clear hs2 hv2)));go_ret;exact⟨t,rfl,HD.out.step,HV.out⟩
 | false=>
   have eR:gateR o k (nameP l k)= .bad k:=by
    unfold gateR
    split
    ·rename_i ho
     subst ho;exact if_neg (fun e=>by have:=e.2;rw[show (nxp l k).word=(nxq l k 0).word from rfl,hn] at this;cases this)
    ·rfl
   rw[eR];have KK:=KK 1;have eT:gateR 1 k (takeP l 1 k)= .bad k:=rfl;rw[eT] at KK
   suffices hs:Calls Tryz.prog 94 #[.pointer (some ⟨b,0,none⟩)] w fun e w'=>∃ t:Tok,e= .returned (.string ⟨t.word.toArray⟩)∧StepC b w A n c l vN ns k 1 sf ms vM w' from
    hs.mono fun e w' ⟨t,h1,h2⟩=>⟨t.word,h1,h2,fun y j z g hy=>by cases hy⟩
   rw[hn] at KN;clear eR hn hw h eT;generalize nxq l k o=t0 at K KN;go_enter Tryz.func94,Tryz.ntmps94;go_wp2_with (first | (go_at_call 60;go_must (((with_reducible refine(K.out _ H.out.rd).mono ?_));rintro e w1 ⟨A1,c1,rfl,hb1,hr1⟩;have HC:=Lib.hid (H.out.below hb1);clear hb1 hr1)) | (go_at_call 52;go_must (((with_reducible refine(KN.out _).mono ?_));rintro e w2 ⟨rfl,rfl⟩)) | (go_at_call 92;go_must (((with_reducible refine(KR.out _ HC.out.rd).mono ?_));rintro e w2 ⟨rfl,hs2⟩;have HB:=Lib.hid (HC.out.call hs2);clear hs2)) | (go_at_call 61;go_must (((with_reducible refine(KK.out _ HB.out.rd).mono ?_));rintro e w3 ⟨t,A2,c2,rfl,hs2,hv2⟩;have HD:=Lib.hid (HB.out.call hs2);clear hs2 hv2)));go_ret;exact⟨t,rfl,HD.out.step⟩
theorem qplainP (A:Option Addr) (n c:Nat) (ps:List Pt) (w:World) (h:Rd w.heap.size w A n ps) (hm:may false ps=true) (hn:n≤1000000) (ht:∀ p∈ps,p.2.length≤1000000):
  Calls Tryz.prog 139 #[.slice A n c] w fun e w'=>e= .returned (.tuple #[.string ⟨((oneT ps).getD []).toArray⟩,.bool (oneT ps).isSome])∧Below w.heap.size w w':=by
 have hl:=h.1
 match ps,h,hm,ht,hl with
 | [],h,hm,ht,hl=>
   subst hl;exact plain_zero A c w
 | [p],h,hm,ht,hl=>
   subst hl;by_cases hp:p.1=[]
   ·have hp2:¬ p.2=[]:=fun e=>by
     obtain⟨p1,p2⟩:=p;dsimp only at hp e;subst hp;subst e;exact absurd hm (by decide)
    have e:oneT [p]=some p.2:=by unfold oneT;exact if_pos hp
    rw[e];have:=plain_text A c p ⟨p.2.toArray⟩ rfl w h hp hp2 (by have:=ht p (by simp);simpa[ByteArray.size] using this);exact this
   ·have e:oneT [p]=none:=by unfold oneT;exact if_neg hp
    rw[e];exact plain_var A c p w h hp
 | p::q::r,h,hm,ht,hl=>
   exact plain_many A n c (by rw[hl];simp) hn w
end
end
section
section
variable {b:Nat} {w w':World} {A:Option Addr} {n c:Nat} {l:List Tok} {vN:Value} {ns:List Bs} {k o:Nat} {sf:Sf} {ms:List Bs} {vM:Value}
theorem cplain_any (h:RdC b w A n c l vN ns k o sf ms vM):
  Calls Tryz.prog 140 #[.pointer (some ⟨b,0,none⟩)] w (StrC b w A n c l vN ns sf ms vM (gateR o k (textP l k))):=by
 have K:=nextK b A n c l vN ns sf ms vM k o;have H:=Lib.hid (Cyc.start h);obtain⟨-,t2,t3,t4⟩:=nxq_fit h.fit k o;have hbl:=h.lt
 have KP:Hid (∀ w' A1 c1,b≤w'.heap.size→Rd b w' A1 (nxq l k o).parts.length (nxq l k o).parts→Calls Tryz.prog 139 #[.slice A1 (nxq l k o).parts.length c1] w' fun e w2=>e= .returned (.tuple #[.string ⟨((oneT (nxq l k o).parts).getD []).toArray⟩,.bool (oneT (nxq l k o).parts).isSome])∧Below w'.heap.size w' w2):=Lib.hid fun w' A1 c1 hb hr=>
  qplainP A1 _ c1 _ w' (hr.up hb) t2 (by omega) (fun p hp=>Nat.le_trans (t4 p hp) (by omega))
 have tf:=tkF3
 cases hp:oneT (nxq l k o).parts with
 | some s=>
   have eR:gateR o k (textP l k)=(gateR o k (takeP l 3 k)).then fun _ j=> .ok s j [] []:=by
    by_cases ho:o=0
    ·subst ho
     have hp':oneT (nxp l k).parts=some s:=hp;unfold gateR textP takeP;rw[if_pos rfl,if_pos rfl];by_cases c:(nxp l k).kind=3
     ·rw[if_pos c,if_pos c,hp'];rfl
     ·rw[if_neg c,if_neg c];rfl
    ·unfold gateR;rw[if_neg ho,if_neg ho];rfl
   rw[eR];rw[hp] at KP;have KK:=kindK b A n c l vN ns sf ms vM 3 (by decide) k o
   suffices hs:Calls Tryz.prog 140 #[.pointer (some ⟨b,0,none⟩)] w fun e w'=>e= .returned (.string ⟨s.toArray⟩)∧StepC b w A n c l vN ns (gateR o k (takeP l 3 k)).at (gateR o k (takeP l 3 k)).err sf ms vM w' from
    hs.mono fun e w' ⟨h1,h2⟩=>by
     refine⟨s,h1,?_,fun y j z g hy=>?_⟩
     ·cases hT:gateR o k (takeP l 3 k) with
      | bad j=>rw[hT] at h2;exact h2
      | ok y j s g=>rw[hT] at h2;exact h2
     ·cases hT:gateR o k (takeP l 3 k) with
      | bad j=>rw[hT] at hy;cases hy
      | ok y' j' s' g'=>rw[hT] at hy;injection hy with hy;exact hy.symm
   generalize gateR o k (takeP l 3 k)=R at KK ⊢;generalize nxq l k o=t at K KP;dsimp only[Option.getD,Option.isSome] at KP;clear eR hp t2 t3 t4 h;go_enter Tryz.func140,Tryz.ntmps140;go_wp2_with (first | (go_at_call 60;go_must (((with_reducible refine(K.out _ H.out.rd).mono ?_));rintro e w1 ⟨A1,c1,rfl,hb1,hr1⟩;have HC:=Lib.hid (H.out.below hb1);have HR:=Lib.hid (hr1.keep (hb1.mono (Nat.le_of_lt hbl)));clear hb1 hr1)) | (go_at_call 139;go_must (((with_reducible refine(KP.out _ _ _ (Nat.le_of_lt HC.out.rd.lt) HR.out).mono ?_));rintro e w2 ⟨rfl,hb2⟩;have HD:=Lib.hid (HC.out.below hb2);clear hb2)) | (go_at_call 61;go_must (((with_reducible refine(KK.out _ HD.out.rd).mono ?_));rintro e w3 ⟨t3,A2,c2,rfl,hs2,hv2⟩;have HE:=Lib.hid (HD.out.call hs2);clear hs2 hv2)));go_ret;exact⟨rfl,HE.out.step⟩
 | none=>
   have ho:o=0:=by
    by_cases ho:o=0
    ·exact ho
    ·unfold nxq at hp;rw[if_neg ho] at hp;cases hp
   subst ho
   have eR:gateR 0 k (textP l k)= .bad k:=by
    have hp':oneT (nxp l k).parts=none:=hp;unfold gateR textP;rw[if_pos rfl,hp']
    split <;> rfl
   rw[eR];rw[hp] at KP;have KR:=refK b A n c l vN ns sf ms vM k 0;have KK:=kindK b A n c l vN ns sf ms vM 3 (by decide) k 1;have eT:gateR 1 k (takeP l 3 k)= .bad k:=rfl;rw[eT] at KK
   suffices hs:Calls Tryz.prog 140 #[.pointer (some ⟨b,0,none⟩)] w fun e w'=>e= .returned (.string ⟨#[]⟩)∧StepC b w A n c l vN ns k 1 sf ms vM w' from
    hs.mono fun e w' ⟨h1,h2⟩=>⟨[],h1,h2,fun y j z g hy=>by cases hy⟩
   generalize nxq l k 0=t at K KP;dsimp only[Option.getD,Option.isSome] at KP;clear eR hp t2 t3 t4 h eT;go_enter Tryz.func140,Tryz.ntmps140;go_wp2_with (first | (go_at_call 60;go_must (((with_reducible refine(K.out _ H.out.rd).mono ?_));rintro e w1 ⟨A1,c1,rfl,hb1,hr1⟩;have HC:=Lib.hid (H.out.below hb1);have HR:=Lib.hid (hr1.keep (hb1.mono (Nat.le_of_lt hbl)));clear hb1 hr1)) | (go_at_call 139;go_must (((with_reducible refine(KP.out _ _ _ (Nat.le_of_lt HC.out.rd.lt) HR.out).mono ?_));rintro e w2 ⟨rfl,hb2⟩;have HD:=Lib.hid (HC.out.below hb2);clear hb2)) | (go_at_call 92;go_must (((with_reducible refine(KR.out _ HD.out.rd).mono ?_));rintro e w4 ⟨rfl,hs4⟩;have HF:=Lib.hid (HD.out.call hs4);clear hs4)) | (go_at_call 61;go_must (((with_reducible refine(KK.out _ HF.out.rd).mono ?_));rintro e w3 ⟨t3,A2,c2,rfl,hs2,hv2⟩;have HE:=Lib.hid (HF.out.call hs2);clear hs2 hv2)));go_ret;exact⟨rfl,HE.out.step⟩
end
theorem cmaytext_any (kd cap:Int) (S:ByteArray) (hS:S.size≤1000000) (w:World):
  Calls Tryz.prog 78 #[.int .i64 kd,.string S,.int .i64 cap] w fun e w'=>e= .returned (.bool (!badText kd cap S.data.toList))∧Below w.heap.size w w':=by
 obtain⟨v,hv⟩:∃ v,v= !badText kd cap S.data.toList:=⟨_,rfl⟩;rw[←hv];have hl:S.data.toList.length=S.size:=Array.length_toList;by_cases k1:kd=1
 ·subst k1
  have b1:((1:Int)==1)=true:=rfl;by_cases e0:S.size=0
  ·have hn:S.data.toList=[]:=by rw[←List.length_eq_zero_iff,hl];exact e0
   have HV:Hid (v=false):=Lib.hid (by rw[hv];unfold badText;rw[if_pos rfl,hn,decide_eq_true (.inl rfl)];rfl);have b2:S.toList.isEmpty=true:=by rw[toList_data,hn];rfl
   clear hv hn hl;go_enter Tryz.func78,Tryz.ntmps78;go_wp2;go_ret;exact⟨by rw[HV.out];try rfl,Below.refl _ _⟩
  ·have hn:¬ S.data.toList=[]:=fun e=>e0 (by rw[←hl,e];rfl)
   have b2:S.toList.isEmpty=false:=by rw[toList_data];simpa using hn
   have HV:Hid (v=decide ((S.size:Int)≤cap)):=Lib.hid (by
    rw[hv];unfold badText;rw[if_pos rfl,hl];by_cases hc:(S.size:Int)≤cap
    ·rw[decide_eq_true hc,decide_eq_false (by rintro(e | e);exact hn e;omega)];rfl
    ·rw[decide_eq_false hc,decide_eq_true (.inr (by omega))];rfl)
   clear hv hn hl;go_enter Tryz.func78,Tryz.ntmps78;go_wp2;go_ret;exact⟨by rw[HV.out];try rfl,Below.refl _ _⟩
 ·have b1:(kd==1)=false:=by simpa using k1
  have K:=Lib.hid (parse_anyGl S hS w);unfold PostPGl at K
  have HV:Hid (v=((parseGl S.data.toList).2.2==0)):=Lib.hid (by
   rw[hv];unfold badText globOk;rw[if_neg k1,Bool.not_not];by_cases hc:(parseGl S.data.toList).2.2=0
   ·rw[decide_eq_true hc,hc];rfl
   ·rw[decide_eq_false hc];exact(beq_false_of_ne hc).symm)
  generalize parseGl S.data.toList=R at K HV;clear hv hl k1;go_enter Tryz.func78,Tryz.ntmps78;go_wp2_with (go_at_call 113;go_must (((with_reducible refine K.out.mono ?_));rintro e w1 ⟨v1,l1,rfl,hp1, -⟩;have HB:=Lib.hid hp1.below;clear hp1));go_ret;exact⟨by rw[HV.out];try rfl,HB.out⟩
end
end Go.Proofs.YtdobinjbejagcaaGreatDoor
