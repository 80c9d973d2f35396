import Derived.ProofKit
import Derived.OpenShut
import Derived.ShutString
import Derived.Carry
import Derived.Deep.SlicePairs
import Derived.Deep.Slices
import Derived.Test.YtngfihoempcplaaGreatDoorTkN
import Derived.Test.YtngfihoempcplaaGreatDoorSc27
import Derived.Test.YtngfihoempcplaaGreatDoorEx30
import Derived.Test.YtngfihoempcplaaGreatDoorSc11
namespace Go.Proofs.YtngfihoempcplaaGreatDoor
open Go Go.RowKit
set_option maxRecDepth 100000
section
open Go Go.ChangeShapes Go.WideShapes Go.ChangeAt Go.RowKit Go.Deep
theorem cellsPart:Tryz.prog.cellsOf 81=2:=by kernel_rfl
theorem cellsInt:Tryz.prog.cellsOf 3=1:=by kernel_rfl
theorem cellsI64:Tryz.prog.cellsOf 2=1:=by kernel_rfl
theorem cellsStr:Tryz.prog.cellsOf 9=1:=by kernel_rfl
theorem cellsParts:Tryz.prog.cellsOf 35=1:=by kernel_rfl
theorem part_fields:∃ f0 f1:Field,Tryz.prog.underlying 81=some (.struct #[f0,f1])∧f0.offset=0∧f1.offset=1∧f0.type=9∧f1.type=9:=by
 refine⟨_,_,Tryz.underlying81,?_,?_,?_,?_⟩ <;> rfl
def psOfT (N T:Nat→ByteArray) (len:Nat):List Pt:=(List.range len).map fun i=>((N i).data.toList,(T i).data.toList)
theorem rd_mkT {w:World} {a:Addr} {len:Nat} (N T:Nat→ByteArray) (h:∀ i,i<len→w.cell? (a.add (i * 2))=some (.string (N i))∧w.cell? (a.add (i * 2+1))=some (.string (T i))):Rd w.heap.size w (some a) len (psOfT N T len):=by
 refine⟨by simp[psOfT],fun hn=>⟨a,rfl,?_,fun j u hu=>?_⟩⟩
 ·have:=World.block_lt_of_cell? w _ (h 0 hn).1
  rwa [block_of_add] at this
 ·have hj:j<(cellsP (psOfT N T len)).length:=(List.getElem?_eq_some_iff.1 hu).1
  rw[cellsP_length] at hj;have hl:(psOfT N T len).length=len:=by simp[psOfT]
  have hi:j / 2<len:=by omega
  have hp:(psOfT N T len)[j / 2]?=some ((N (j / 2)).data.toList,(T (j / 2)).data.toList):=by simp[psOfT,hi]
  obtain⟨c0,c1⟩:=cells_at _ _ _ hp;obtain⟨h0,h1⟩:=h (j / 2) hi
  rcases Nat.mod_two_eq_zero_or_one j with e | e
  ·have ej:j / 2 * 2=j:=by omega
   rw[ej] at c0 h0;rw[c0] at hu;injection hu with hu
   rw[←hu,h0]
  ·have ej:j / 2 * 2+1=j:=by omega
   rw[ej] at c1 h1;rw[c1] at hu;injection hu with hu
   rw[←hu,h1]
section
variable {H:Type} {enc:TypeId × Value→H} {W:World}
theorem open_partsT {fuel:Nat} {v:Value} {x:DataW H × List MemPlace} (h:DataW.trod enc Tryz.prog W 0 (fun _=>true) true fuel 35 [v]=some x):
  ∃ (A:Option Addr) (ps:List Pt) (c:Nat),v= .slice A ps.length c∧Rd W.heap.size W A ps.length ps∧ps.length≤maxLen:=by
 obtain⟨f0,f1,hs,o0,o1,t0,t1⟩:=part_fields
 rcases open_slice_pairs Tryz.underlying35 hs cellsPart o0 o1 (by rw[t0];exact cellsStr) (by rw[t1];exact cellsStr) h with ⟨h0,_⟩ | ⟨a,len,cap,m,k,V0,V1,D0,D1,P0,P1,hc,_,hl,hm,hmeq,_,hall⟩
 ·injection h0 with h0 _
  exact⟨none,[],0,h0,⟨rfl,fun h=>by simp at h⟩,Nat.zero_le _⟩
 ·injection hc with hc _
  simp only[if_true] at hmeq;have hlen:(psOfT (fun i=>match V0 i with | .string s=>s | _=>⟨#[]⟩) (fun i=>match V1 i with | .string s=>s | _=>⟨#[]⟩) len).length=len:=by simp[psOfT]
  refine⟨some a,psOfT (fun i=>match V0 i with | .string s=>s | _=>⟨#[]⟩) (fun i=>match V1 i with | .string s=>s | _=>⟨#[]⟩) len,cap,by rw[hlen,hc],?_,by rw[hlen];exact Nat.le_trans hl hm⟩;rw[hlen];refine rd_mkT _ _ (fun i hi=>?_);obtain⟨c0,c1,x0,x1⟩:=hall i (by omega);rw[t0] at x0;rw[t1] at x1;obtain⟨s0,y0,_⟩:=DataW.trod_string Tryz.underlying9 x0;obtain⟨s1,y1,_⟩:=DataW.trod_string Tryz.underlying9 x1;simp only[List.cons.injEq,and_true] at y0 y1;rw[c0,c1,y0,y1];exact⟨rfl,rfl⟩
end
end
section
open Go Go.ChangeShapes Go.WideShapes Go.ChangeAt Go.RowKit Go.Deep
theorem cellsEx:Tryz.prog.cellsOf 38=5:=by kernel_rfl
theorem cellsKd:Tryz.prog.cellsOf 36=1:=by kernel_rfl
theorem cellsIntX:Tryz.prog.cellsOf 3=1:=by kernel_rfl
theorem cellsI64X:Tryz.prog.cellsOf 2=1:=by kernel_rfl
theorem cellsStrX:Tryz.prog.cellsOf 9=1:=by kernel_rfl
theorem expr_fields:∃ f0 f1 f2 f3 f4:Field,Tryz.prog.underlying 38=some (.struct #[f0,f1,f2,f3,f4])∧(f0.offset=0∧f1.offset=1∧f2.offset=2∧f3.offset=3∧f4.offset=4)∧f0.type=3∧f1.type=2∧f2.type=9∧f3.type=9∧f4.type=36:=by
 refine⟨_,_,_,_,_,Tryz.underlying38,⟨?_,?_,?_,?_,?_⟩,?_,?_,?_,?_,?_⟩ <;> rfl
theorem text_of (X:ByteArray):∃ l:Bs,X=⟨l.toArray⟩:=⟨X.data.toList,by simp⟩
section
variable {H:Type} {enc:TypeId × Value→H} {W:World}
theorem open_five {fuel:Nat} {cs:List Value} {x:DataW H × List MemPlace} (h:DataW.trod enc Tryz.prog W 0 (fun _=>true) true fuel 38 cs=some x):
  ∃ (k n:Int) (nm op:Bs) (v:Value) (m:Nat) (y:DataW H × List MemPlace),fuel=m+1∧okN n∧
   cs=[.int .i64 k,.int .i64 n,.string ⟨nm.toArray⟩,.string ⟨op.toArray⟩,v]∧
   DataW.trod enc Tryz.prog W 0 (fun _=>true) true m 36 [v]=some y:=by
 obtain⟨f0,f1,f2,f3,f4,hs,⟨o0,o1,o2,o3,o4⟩,t0,t1,t2,t3,t4⟩:=expr_fields;obtain⟨xs,m,hfu,_,hl,hxl,hf⟩:=DataW.trod_struct hs h;rw[cellsEx] at hl
 match cs,hl,xs,hxl with
 | [c0,c1,c2,c3,c4],_,[y0,y1,y2,y3,y4],_=>
   have g0:=hf 0 f0 rfl;have g1:=hf 1 f1 rfl;have g2:=hf 2 f2 rfl;have g3:=hf 3 f3 rfl;have g4:=hf 4 f4 rfl;rw[o0,t0,cellsIntX] at g0;rw[o1,t1,cellsI64X] at g1;rw[o2,t2,cellsStrX] at g2;rw[o3,t3,cellsStrX] at g3;rw[o4,t4,cellsKd] at g4;simp only[List.drop_zero,List.drop_succ_cons,List.take_succ_cons,List.take_zero] at g0 g1 g2 g3 g4;obtain⟨k,e0,_,_⟩:=DataW.trod_int Tryz.underlying3 g0;obtain⟨n,e1,_,w1⟩:=DataW.trod_int Tryz.underlying2 g1;obtain⟨X,e2,_⟩:=DataW.trod_string Tryz.underlying9 g2;obtain⟨Y,e3,_⟩:=DataW.trod_string Tryz.underlying9 g3;simp only[List.cons.injEq,and_true] at e0 e1 e2 e3;obtain⟨nm,rfl⟩:=text_of X;obtain⟨op,rfl⟩:=text_of Y;exact⟨k,n,nm,op,c4,m,y4,hfu,bounds_i64 w1,by rw[e0,e1,e2,e3],g4⟩
theorem kidsXL_mk {P:Nat→Prop} {w:World} {ad:Addr}:∀ (l:List Ex) (i:Nat),(∀ k r,l[k]?=some r→∃ A c,AtX w (ad.add ((i+k) * 5)) r A c∧KidsX P w A r)→KidsXL P w ad i l
 | [],i,_=>by rw[KidsXL];trivial
 | r::l,i,h=>by
   rw[KidsXL];refine⟨by have:=h 0 r rfl;rwa [Nat.add_zero] at this,kidsXL_mk l (i+1) fun k r' hk=>?_⟩;have:=h (k+1) r' (by simpa using hk);rwa [show i+(k+1)=i+1+k by omega] at this
theorem AtX.lt {w:World} {a:Addr} {r:Ex} {A:Option Addr} {c:Nat} (h:AtX w a r A c):a.block<w.heap.size:=by
 obtain⟨k,n,nm,op,ks⟩:=r;exact World.block_lt_of_cell? w _ h.1
theorem add_atX (a:Addr) (m j:Nat) (hj:0<j):a.add (m+j)=⟨(a.add m).block,(a.add m).off+j,none⟩:=by
 unfold Addr.add;rw[if_neg (by omega)]
 split
 ·rename_i h;subst h;simp
 ·simp;omega
theorem open_treeX:∀ (N fuel:Nat) (cs:List Value) (x:DataW H × List MemPlace),fuel<N→DataW.trod enc Tryz.prog W 0 (fun _=>true) true fuel 38 cs=some x→
  ∃ (r:Ex) (A:Option Addr) (c:Nat),cs=(valX r A c).cells.toList∧KidsX (LtX W.heap.size) W A r∧NumX r
 | 0,fuel,cs,x,hN,_=>by omega
 | N+1,fuel,cs,x,hN,h=>by
   obtain⟨k,n,nm,op,v,m,y,rfl,hn,rfl,hk⟩:=open_five h
   rcases DataW.trod_slice Tryz.underlying36 hk with ⟨h0,_⟩ | ⟨a,len,cap,elems,rest,m2,rfl,hc,_,_,_,_,hlen,hel,_,_⟩
   ·injection h0 with h0 _
    subst h0;exact⟨.mk k n nm op [],none,0,rfl,by rw[KidsX];exact .inl rfl,.mk hn (by simp)⟩
   ·injection hc with hc _
    subst hc
    have each:∀ i,i<len→∃ r:Ex,∃ A c,AtX W (a.add (i * 5)) r A c∧KidsX (LtX W.heap.size) W A r∧NumX r:=by
     intro i hi;have h1:=hel i hi;rw[cellsEx,List.getElem?_eq_getElem (by omega)] at h1;obtain⟨cs',h2,h3⟩:=Option.bind_eq_some_iff.1 h1;obtain⟨_,hl9,hcell⟩:=World.cells?_some h2;obtain⟨r,A,c,rfl,hkr,hnr⟩:=open_treeX N m2 cs' _ (by omega) h3;refine⟨r,A,c,?_,hkr,hnr⟩;obtain⟨k',n',nm',op',ks'⟩:=r;have c0:=hcell 0 (by omega);have c1:=hcell 1 (by omega);have c2:=hcell 2 (by omega);have c3:=hcell 3 (by omega);have c4:=hcell 4 (by omega);rw[add_addX] at c0 c1 c2 c3 c4;refine⟨?_,?_,?_,?_,?_⟩
     ·rw[Nat.add_zero] at c0;rw[c0];rfl
     ·rw[←add_atX _ _ _ (by omega),c1];rfl
     ·rw[←add_atX _ _ _ (by omega),c2];rfl
     ·rw[←add_atX _ _ _ (by omega),c3];rfl
     ·rw[←add_atX _ _ _ (by omega),c4];rfl
    have hinh:Inhabited Ex:=⟨.mk 0 0 [] [] []⟩;obtain⟨G,hG⟩:=choose_lt each;have hl:((List.range len).map G).length=len:=by simp
    refine⟨.mk k n nm op ((List.range len).map G),some a,cap,by rw[valX,hl];rfl,?_,.mk hn fun z hz=>?_⟩
    ·rw[KidsX]
     by_cases h0:len=0
     ·left;subst h0;rfl
     ·right
      refine⟨a,rfl,?_,kidsXL_mk _ 0 fun i r hr=>?_⟩
      ·obtain⟨A,c,h9,_⟩:=hG 0 (by omega)
       have:=AtX.lt h9;rwa [blockX_add] at this
      ·rw[List.getElem?_map,Option.map_eq_some_iff] at hr
       obtain⟨j,hj,rfl⟩:=hr;obtain⟨hlt,hji⟩:=List.getElem?_eq_some_iff.1 hj;simp at hlt hji;subst hji;rw[Nat.zero_add];obtain⟨A,c,q1,q2,_⟩:=hG i hlt;exact⟨A,c,q1,q2⟩
    ·obtain⟨j,hj,rfl⟩:=List.mem_map.1 hz
     obtain⟨_,_,_,_,q3⟩:=hG j (by simpa using hj);exact q3
end
end
section
open Go Go.ChangeShapes Go.WideShapes Go.ChangeAt Go.RowKit Go.Deep
theorem cellsCmd:Tryz.prog.cellsOf 41=13:=by kernel_rfl
theorem cellsRule:Tryz.prog.cellsOf 65=6:=by kernel_rfl
theorem cellsPat:Tryz.prog.cellsOf 63=2:=by kernel_rfl
theorem cellsCmds:Tryz.prog.cellsOf 23=1:=by kernel_rfl
theorem cellsRules:Tryz.prog.cellsOf 39=1:=by kernel_rfl
theorem laidOutC:laidOutB Tryz.prog=true:=by kernel_rfl
theorem readableC:Tryz.prog.readableRec 23=true:=by kernel_rfl
theorem rowCT:23<Tryz.prog.types.size:=by decide+kernel
theorem pat_fields:∃ f0 f1:Field,Tryz.prog.underlying 63=some (.struct #[f0,f1])∧(f0.offset=0∧f1.offset=1)∧f0.type=3∧f1.type=9:=by
 refine⟨_,_,Tryz.underlying63,⟨?_,?_⟩,?_,?_⟩ <;> rfl
theorem rule_fields:∃ f0 f1 f2 f3 f4:Field,Tryz.prog.underlying 65=some (.struct #[f0,f1,f2,f3,f4])∧(f0.offset=0∧f1.offset=1∧f2.offset=2∧f3.offset=4∧f4.offset=5)∧f0.type=3∧f1.type=2∧f2.type=63∧f3.type=23∧f4.type=3:=by
 refine⟨_,_,_,_,_,Tryz.underlying65,⟨?_,?_,?_,?_,?_⟩,?_,?_,?_,?_,?_⟩ <;> rfl
theorem cmd_fields:∃ f0 f1 f2 f3 f4 f5 f6 f7 f8:Field,Tryz.prog.underlying 41=some (.struct #[f0,f1,f2,f3,f4,f5,f6,f7,f8])∧(f0.offset=0∧f1.offset=1∧f2.offset=2∧f3.offset=3∧f4.offset=4∧f5.offset=9∧f6.offset=10∧f7.offset=11∧f8.offset=12)∧
  f0.type=3∧f1.type=9∧f2.type=2∧f3.type=35∧f4.type=38∧f5.type=23∧f6.type=23∧f7.type=39∧f8.type=3:=by
 refine⟨_,_,_,_,_,_,_,_,_,Tryz.underlying41,⟨?_,?_,?_,?_,?_,?_,?_,?_,?_⟩,?_,?_,?_,?_,?_,?_,?_,?_,?_⟩ <;> rfl
section
variable {H:Type} {enc:TypeId × Value→H} {W:World}
theorem open_rowG {e t:TypeId} {α:Type} (hin:Inhabited α) {K:Nat} (ht:Tryz.prog.underlying t=some (.slice e)) (hc:Tryz.prog.cellsOf e=K) (Q:α→List Value→Prop) {N fuel:Nat} (hN:fuel≤N)
  (ih:∀ f cs (x:DataW H × List MemPlace),f<N→DataW.trod enc Tryz.prog W 0 (fun _=>true) true f e cs=some x→∃ r,Q r cs) {v:Value} {x:DataW H × List MemPlace} (h:DataW.trod enc Tryz.prog W 0 (fun _=>true) true fuel t [v]=some x):
  v= .slice none 0 0∨∃ (a:Addr) (len cap:Nat) (G:Nat→α),v= .slice (some a) len cap∧∀ i,i<len→∃ cs,cs.length=K∧(∀ j u,cs[j]?=some u→W.cell? ((a.add (i * K)).add j)=some u)∧Q (G i) cs:=by
 rcases DataW.trod_slice ht h with ⟨h0,_⟩ | ⟨a,len,cap,elems,rest,m2,hf,hcs,_,_,_,_,hlen,hel,_,_⟩
 ·injection h0 with h0 _
  exact .inl h0
 ·injection hcs with hcs _
  have each:∀ i,i<len→∃ r:α,∃ cs,cs.length=K∧(∀ j u,cs[j]?=some u→W.cell? ((a.add (i * K)).add j)=some u)∧Q r cs:=by
   intro i hi;have h1:=hel i hi;rw[hc,List.getElem?_eq_getElem (by omega)] at h1;obtain⟨cs',h2,h3⟩:=Option.bind_eq_some_iff.1 h1;obtain⟨_,hl9,hcell⟩:=World.cells?_some h2;obtain⟨r,hq⟩:=ih m2 cs' _ (by omega) h3;refine⟨r,cs',hl9,fun j u hu=>?_,hq⟩;have hj:j<cs'.length:=(List.getElem?_eq_some_iff.1 hu).1;rw[hcell j (by omega),hu]
  obtain⟨G,hG⟩:=choose_lt each;exact .inr ⟨a,len,cap,G,hcs,hG⟩
def OpQC (W:World) (r:Cm) (cs:List Value):Prop:=∃ lk,cs=cellsC r lk∧KidC (LtX W.heap.size) W lk r
def OpQR (W:World) (r:Ru) (cs:List Value):Prop:=∃ A c,cs=cellsR r A c∧KidR (LtX W.heap.size) W A r
theorem range_at {α:Type} {G:Nat→α} {n i:Nat} {c:α} (h:((List.range n).map G)[i]?=some c):i<n∧G i=c:=by
 rw[List.getElem?_map,Option.map_eq_some_iff] at h;obtain⟨j,hj,rfl⟩:=h;obtain⟨hlt,hji⟩:=List.getElem?_eq_some_iff.1 hj;simp at hlt hji;subst hji;exact⟨hlt,rfl⟩
theorem open_rowC {N fuel:Nat} (hN:fuel≤N) (ih:∀ f cs (x:DataW H × List MemPlace),f<N→DataW.trod enc Tryz.prog W 0 (fun _=>true) true f 41 cs=some x→∃ r,OpQC W r cs) {v:Value} {x:DataW H × List MemPlace} (h:DataW.trod enc Tryz.prog W 0 (fun _=>true) true fuel 23 [v]=some x):
  ∃ (A:Option Addr) (b:List Cm) (c:Nat),v= .slice A b.length c∧RowC (LtX W.heap.size) W A b:=by
 rcases open_rowG ⟨.mk 0 [] 0 [] exNone [] [] [] 0⟩ Tryz.underlying23 cellsCmd (OpQC W) hN ih h with h0 | ⟨a,len,cap,G,h0,hG⟩
 ·exact⟨none,[],0,h0,.inl rfl⟩
 ·refine⟨some a,(List.range len).map G,cap,by rw[h0];simp,?_⟩
  by_cases hl:len=0
  ·left;subst hl;rfl
  ·refine .inr ⟨a,rfl,?_,kidCL_iff.2 fun i c hi=>?_⟩
   ·obtain⟨cs,h1,h2,_⟩:=hG 0 (by omega)
    have h3:=h2 0 cs[0] (List.getElem?_eq_getElem (by omega));have:=World.block_lt_of_cell? W _ h3;rwa [blockX_add,blockX_add] at this
   ·obtain⟨hlt,rfl⟩:=range_at hi
    obtain⟨cs,_,h2,lk,rfl,hk⟩:=hG i hlt;rw[Nat.zero_add];exact⟨lk,h2,hk⟩
theorem open_rowU {N fuel:Nat} (hN:fuel≤N) (ih:∀ f cs (x:DataW H × List MemPlace),f<N→DataW.trod enc Tryz.prog W 0 (fun _=>true) true f 65 cs=some x→∃ r,OpQR W r cs) {v:Value} {x:DataW H × List MemPlace} (h:DataW.trod enc Tryz.prog W 0 (fun _=>true) true fuel 39 [v]=some x):
  ∃ (A:Option Addr) (b:List Ru) (c:Nat),v= .slice A b.length c∧RowU (LtX W.heap.size) W A b:=by
 rcases open_rowG ⟨.mk 0 0 0 [] [] 0⟩ Tryz.underlying39 cellsRule (OpQR W) hN ih h with h0 | ⟨a,len,cap,G,h0,hG⟩
 ·exact⟨none,[],0,h0,.inl rfl⟩
 ·refine⟨some a,(List.range len).map G,cap,by rw[h0];simp,?_⟩
  by_cases hl:len=0
  ·left;subst hl;rfl
  ·refine .inr ⟨a,rfl,?_,kidRL_iff.2 fun i c hi=>?_⟩
   ·obtain⟨cs,h1,h2,_⟩:=hG 0 (by omega)
    have h3:=h2 0 cs[0] (List.getElem?_eq_getElem (by omega));have:=World.block_lt_of_cell? W _ h3;rwa [blockX_add,blockX_add] at this
   ·obtain⟨hlt,rfl⟩:=range_at hi
    obtain⟨cs,_,h2,A,c,rfl,hk⟩:=hG i hlt;rw[Nat.zero_add];exact⟨A,c,h2,hk⟩
theorem open_rule {N:Nat} (ih:∀ f cs (x:DataW H × List MemPlace),f<N→DataW.trod enc Tryz.prog W 0 (fun _=>true) true f 41 cs=some x→∃ r,OpQC W r cs) (f:Nat) (cs:List Value) (x:DataW H × List MemPlace) (hN:f≤N) (h:DataW.trod enc Tryz.prog W 0 (fun _=>true) true f 65 cs=some x):∃ r,OpQR W r cs:=by
 obtain⟨f0,f1,f2,f3,f4,hs,⟨o0,o1,o2,o3,o4⟩,t0,t1,t2,t3,t4⟩:=rule_fields;obtain⟨xs,m,hfu,_,hl,hxl,hf⟩:=DataW.trod_struct hs h;rw[cellsRule] at hl
 match cs,hl,xs,hxl with
 | [c0,c1,c2,c3,c4,c5],_,[y0,y1,y2,y3,y4],_=>
   have g0:=hf 0 f0 rfl;have g1:=hf 1 f1 rfl;have g2:=hf 2 f2 rfl;have g3:=hf 3 f3 rfl;have g4:=hf 4 f4 rfl;rw[o0,t0,cellsInt] at g0;rw[o1,t1,cellsI64] at g1;rw[o2,t2,cellsPat] at g2;rw[o3,t3,cellsCmds] at g3;rw[o4,t4,cellsInt] at g4;simp only[List.drop_zero,List.drop_succ_cons,List.take_succ_cons,List.take_zero] at g0 g1 g2 g3 g4;obtain⟨k,e0,_,_⟩:=DataW.trod_int Tryz.underlying3 g0;obtain⟨q,e1,_,_⟩:=DataW.trod_int Tryz.underlying2 g1;obtain⟨p,e5,_,_⟩:=DataW.trod_int Tryz.underlying3 g4;obtain⟨j0,j1,js,⟨w0,w1⟩,u0,u1⟩:=pat_fields;obtain⟨zs,m2,_,_,_,hzl,hz⟩:=DataW.trod_struct js g2
   match zs,hzl with
   | [z0,z1],_=>
     have i0:=hz 0 j0 rfl;have i1:=hz 1 j1 rfl;rw[w0,u0,cellsInt] at i0;rw[w1,u1,cellsStr] at i1;simp only[List.drop_zero,List.drop_succ_cons,List.take_succ_cons,List.take_zero] at i0 i1;obtain⟨pk,e2,_,_⟩:=DataW.trod_int Tryz.underlying3 i0;obtain⟨X,e3,_⟩:=DataW.trod_string Tryz.underlying9 i1;obtain⟨A,b,c,rfl,hb⟩:=open_rowC (N:=N) (by omega) ih g3;simp only[List.cons.injEq,and_true] at e0 e1 e2 e3 e5;obtain⟨pt,rfl⟩:=text_of X;exact⟨.mk k q pk pt b p,A,c,by rw[e0,e1,e2,e3,e5];rfl,kidR_eq.2 hb⟩
theorem open_treeC:∀ (N fuel:Nat) (cs:List Value) (x:DataW H × List MemPlace),fuel<N→DataW.trod enc Tryz.prog W 0 (fun _=>true) true fuel 41 cs=some x→∃ r,OpQC W r cs
 | 0,fuel,cs,x,hN,_=>by omega
 | N+1,fuel,cs,x,hN,h=>by
   have ih:=open_treeC N;obtain⟨f0,f1,f2,f3,f4,f5,f6,f7,f8,hs,⟨o0,o1,o2,o3,o4,o5,o6,o7,o8⟩,t0,t1,t2,t3,t4,t5,t6,t7,t8⟩:=cmd_fields;obtain⟨xs,m,hfu,_,hl,hxl,hf⟩:=DataW.trod_struct hs h;rw[cellsCmd] at hl
   match cs,hl,xs,hxl with
   | [c0,c1,c2,c3,c4,c5,c6,c7,c8,c9,c10,c11,c12],_,[y0,y1,y2,y3,y4,y5,y6,y7,y8],_=>
     have g0:=hf 0 f0 rfl;have g1:=hf 1 f1 rfl;have g2:=hf 2 f2 rfl;have g3:=hf 3 f3 rfl;have g4:=hf 4 f4 rfl;have g5:=hf 5 f5 rfl;have g6:=hf 6 f6 rfl;have g7:=hf 7 f7 rfl;have g8:=hf 8 f8 rfl;rw[o0,t0,cellsInt] at g0;rw[o1,t1,cellsStr] at g1;rw[o2,t2,cellsI64] at g2;rw[o3,t3,cellsParts] at g3;rw[o4,t4,cellsEx] at g4;rw[o5,t5,cellsCmds] at g5;rw[o6,t6,cellsCmds] at g6;rw[o7,t7,cellsRules] at g7;rw[o8,t8,cellsInt] at g8;simp only[List.drop_zero,List.drop_succ_cons,List.take_succ_cons,List.take_zero] at g0 g1 g2 g3 g4 g5 g6 g7 g8;obtain⟨k,e0,_,_⟩:=DataW.trod_int Tryz.underlying3 g0;obtain⟨X,e1,_⟩:=DataW.trod_string Tryz.underlying9 g1;obtain⟨n,e2,_,_⟩:=DataW.trod_int Tryz.underlying2 g2;obtain⟨Ap,ps,cp,rfl,hp,_⟩:=open_partsT g3;obtain⟨x,Ax,cx,e4,hx,_⟩:=open_treeX (m+1) m _ _ (Nat.lt_succ_self _) g4;obtain⟨Ab,b,cb,rfl,hb⟩:=open_rowC (N:=N) (by omega) ih g5;obtain⟨Ae,e,ce,rfl,he⟩:=open_rowC (N:=N) (by omega) ih g6;obtain⟨Au,u,cu,rfl,hu⟩:=open_rowU (N:=N) (by omega) (fun f cs x hf=>open_rule ih f cs x (by omega)) g7;obtain⟨p,e8,_,_⟩:=DataW.trod_int Tryz.underlying3 g8;obtain⟨nm,rfl⟩:=text_of X;have e4:[c4,c5,c6,c7,c8]=[.int .i64 x.kind,.int .i64 x.n,.string ⟨x.name.toArray⟩,.string ⟨x.op.toArray⟩,.slice Ax x.kids.length cx]:=by rw[e4,valX_eq];rfl
     simp only[List.cons.injEq,and_true] at e0 e1 e2 e4 e8;obtain⟨rfl,rfl,rfl,rfl,rfl⟩:=e4;exact⟨.mk k nm n ps x b e u p,⟨Ap,cp,Ax,cx,Ab,cb,Ae,ce,Au,cu⟩,by rw[e0,e1,e2,e8];rfl,kidC_eq.2 ⟨rdP_rd.2 hp,hx,hb,he,hu⟩⟩
theorem open_cmds {base:Nat} {v:Value} {d:DataW H} {p:List MemPlace} (hv:Value.okWide Tryz.prog W .any base 23 v) (h:DataW.Trod enc Tryz.prog W 0 (fun _=>true) true 23 v d p):
  ∃ A b c,v= .slice A b.length c∧RowC (LtX W.heap.size) W A b:=by
 obtain⟨A,n,c,rfl⟩:=okWide_slice Tryz.underlying23 hv;obtain⟨fuel,hf⟩:=h;rw[show (Value.slice A n c).cells.toList=[.slice A n c] from rfl] at hf;exact open_rowC (N:=fuel) (Nat.le_refl _) (fun f cs x hf=>open_treeC (f+1) f cs x (Nat.lt_succ_self _)) hf
end
end
end Go.Proofs.YtngfihoempcplaaGreatDoor
