import Derived.ProofKit
import Derived.OpenShut
import Derived.ShutString
import Derived.Carry
import Derived.Deep.SlicePairs
import Derived.Test.YthghbdeaenjckaaGreatDoorEx41
namespace Go.Proofs.YthghbdeaenjckaaGreatDoor
open Go Go.RowKit
set_option maxRecDepth 100000
section
open Go Go.ChangeShapes Go.WideShapes Go.ChangeAt Go.RowKit Go.Deep
theorem cellsEx:Tryz.prog.cellsOf 24=5:=by kernel_rfl
theorem cellsKd:Tryz.prog.cellsOf 22=1:=by kernel_rfl
theorem cellsIntX:Tryz.prog.cellsOf 3=1:=by kernel_rfl
theorem cellsI64X:Tryz.prog.cellsOf 2=1:=by kernel_rfl
theorem cellsStrX:Tryz.prog.cellsOf 9=1:=by kernel_rfl
theorem laidOutX:laidOutB Tryz.prog=true:=by kernel_rfl
theorem readableX:Tryz.prog.readableRec 24=true:=by kernel_rfl
theorem rowX:24<Tryz.prog.types.size:=by decide+kernel
theorem expr_fields:∃ f0 f1 f2 f3 f4:Field,Tryz.prog.underlying 24=some (.struct #[f0,f1,f2,f3,f4])∧(f0.offset=0∧f1.offset=1∧f2.offset=2∧f3.offset=3∧f4.offset=4)∧f0.type=3∧f1.type=2∧f2.type=9∧f3.type=9∧f4.type=22:=by
 refine⟨_,_,_,_,_,Tryz.underlying24,⟨?_,?_,?_,?_,?_⟩,?_,?_,?_,?_,?_⟩ <;> rfl
theorem text_of (X:ByteArray):∃ l:Bs,X=⟨l.toArray⟩:=⟨X.data.toList,by simp⟩
section
variable {H:Type} {enc:TypeId × Value→H} {W:World}
theorem open_five {fuel:Nat} {cs:List Value} {x:DataW H × List MemPlace} (h:DataW.trod enc Tryz.prog W 0 (fun _=>true) true fuel 24 cs=some x):
  ∃ (k n:Int) (nm op:Bs) (v:Value) (m:Nat) (y:DataW H × List MemPlace),fuel=m+1∧okN n∧
   cs=[.int .i64 k,.int .i64 n,.string ⟨nm.toArray⟩,.string ⟨op.toArray⟩,v]∧
   DataW.trod enc Tryz.prog W 0 (fun _=>true) true m 22 [v]=some y:=by
 obtain⟨f0,f1,f2,f3,f4,hs,⟨o0,o1,o2,o3,o4⟩,t0,t1,t2,t3,t4⟩:=expr_fields;obtain⟨xs,m,hfu,_,hl,hxl,hf⟩:=DataW.trod_struct hs h;rw[cellsEx] at hl
 match cs,hl,xs,hxl with
 | [c0,c1,c2,c3,c4],_,[y0,y1,y2,y3,y4],_=>
   have g0:=hf 0 f0 rfl;have g1:=hf 1 f1 rfl;have g2:=hf 2 f2 rfl;have g3:=hf 3 f3 rfl;have g4:=hf 4 f4 rfl;rw[o0,t0,cellsIntX] at g0;rw[o1,t1,cellsI64X] at g1;rw[o2,t2,cellsStrX] at g2;rw[o3,t3,cellsStrX] at g3;rw[o4,t4,cellsKd] at g4;simp only[List.drop_zero,List.drop_succ_cons,List.take_succ_cons,List.take_zero] at g0 g1 g2 g3 g4;obtain⟨k,e0,_,_⟩:=DataW.trod_int Tryz.underlying3 g0;obtain⟨n,e1,_,w1⟩:=DataW.trod_int Tryz.underlying2 g1;obtain⟨X,e2,_⟩:=DataW.trod_string Tryz.underlying9 g2;obtain⟨Y,e3,_⟩:=DataW.trod_string Tryz.underlying9 g3;simp only[List.cons.injEq,and_true] at e0 e1 e2 e3;obtain⟨nm,rfl⟩:=text_of X;obtain⟨op,rfl⟩:=text_of Y;exact⟨k,n,nm,op,c4,m,y4,hfu,bounds_i64 w1,by rw[e0,e1,e2,e3],g4⟩
theorem kidsXL_mk {P:Nat→Prop} {w:World} {ad:Addr}:∀ (l:List Ex) (i:Nat),(∀ k r,l[k]?=some r→∃ A c,AtX w (ad.add ((i+k) * 5)) r A c∧KidsX P w A r)→KidsXL P w ad i l
 | [],i,_=>by rw[KidsXL];trivial
 | r::l,i,h=>by
   rw[KidsXL];refine⟨by have:=h 0 r rfl;rwa [Nat.add_zero] at this,kidsXL_mk l (i+1) fun k r' hk=>?_⟩;have:=h (k+1) r' (by simpa using hk);rwa [show i+(k+1)=i+1+k by omega] at this
theorem AtX.lt {w:World} {a:Addr} {r:Ex} {A:Option Addr} {c:Nat} (h:AtX w a r A c):a.block<w.heap.size:=by
 obtain⟨k,n,nm,op,ks⟩:=r;exact World.block_lt_of_cell? w _ h.1
theorem add_atX (a:Addr) (m j:Nat) (hj:0<j):a.add (m+j)=⟨(a.add m).block,(a.add m).off+j,none⟩:=by
 unfold Addr.add;rw[if_neg (by omega)]
 split
 ·rename_i h;subst h;simp
 ·simp;omega
theorem open_treeX:∀ (N fuel:Nat) (cs:List Value) (x:DataW H × List MemPlace),fuel<N→DataW.trod enc Tryz.prog W 0 (fun _=>true) true fuel 24 cs=some x→
  ∃ (r:Ex) (A:Option Addr) (c:Nat),cs=(valX r A c).cells.toList∧KidsX (LtX W.heap.size) W A r∧NumX r
 | 0,fuel,cs,x,hN,_=>by omega
 | N+1,fuel,cs,x,hN,h=>by
   obtain⟨k,n,nm,op,v,m,y,rfl,hn,rfl,hk⟩:=open_five h
   rcases DataW.trod_slice Tryz.underlying22 hk with ⟨h0,_⟩ | ⟨a,len,cap,elems,rest,m2,rfl,hc,_,_,_,_,hlen,hel,_,_⟩
   ·injection h0 with h0 _
    subst h0;exact⟨.mk k n nm op [],none,0,rfl,by rw[KidsX];exact .inl rfl,.mk hn (by simp)⟩
   ·injection hc with hc _
    subst hc
    have each:∀ i,i<len→∃ r:Ex,∃ A c,AtX W (a.add (i * 5)) r A c∧KidsX (LtX W.heap.size) W A r∧NumX r:=by
     intro i hi;have h1:=hel i hi;rw[cellsEx,List.getElem?_eq_getElem (by omega)] at h1;obtain⟨cs',h2,h3⟩:=Option.bind_eq_some_iff.1 h1;obtain⟨_,hl9,hcell⟩:=World.cells?_some h2;obtain⟨r,A,c,rfl,hkr,hnr⟩:=open_treeX N m2 cs' _ (by omega) h3;refine⟨r,A,c,?_,hkr,hnr⟩;obtain⟨k',n',nm',op',ks'⟩:=r;have c0:=hcell 0 (by omega);have c1:=hcell 1 (by omega);have c2:=hcell 2 (by omega);have c3:=hcell 3 (by omega);have c4:=hcell 4 (by omega);rw[add_addX] at c0 c1 c2 c3 c4;refine⟨?_,?_,?_,?_,?_⟩
     ·rw[Nat.add_zero] at c0;rw[c0];rfl
     ·rw[←add_atX _ _ _ (by omega),c1];rfl
     ·rw[←add_atX _ _ _ (by omega),c2];rfl
     ·rw[←add_atX _ _ _ (by omega),c3];rfl
     ·rw[←add_atX _ _ _ (by omega),c4];rfl
    have hinh:Inhabited Ex:=⟨.mk 0 0 [] [] []⟩;obtain⟨G,hG⟩:=choose_lt each;have hl:((List.range len).map G).length=len:=by simp
    refine⟨.mk k n nm op ((List.range len).map G),some a,cap,by rw[valX,hl];rfl,?_,.mk hn fun z hz=>?_⟩
    ·rw[KidsX]
     by_cases h0:len=0
     ·left;subst h0;rfl
     ·right
      refine⟨a,rfl,?_,kidsXL_mk _ 0 fun i r hr=>?_⟩
      ·obtain⟨A,c,h9,_⟩:=hG 0 (by omega)
       have:=AtX.lt h9;rwa [blockX_add] at this
      ·rw[List.getElem?_map,Option.map_eq_some_iff] at hr
       obtain⟨j,hj,rfl⟩:=hr;obtain⟨hlt,hji⟩:=List.getElem?_eq_some_iff.1 hj;simp at hlt hji;subst hji;rw[Nat.zero_add];obtain⟨A,c,q1,q2,_⟩:=hG i hlt;exact⟨A,c,q1,q2⟩
    ·obtain⟨j,hj,rfl⟩:=List.mem_map.1 hz
     obtain⟨_,_,_,_,q3⟩:=hG j (by simpa using hj);exact q3
theorem open_expr {base:Nat} {v:Value} {d:DataW H} {p:List MemPlace} (hv:Value.okWide Tryz.prog W .any base 24 v) (h:DataW.Trod enc Tryz.prog W 0 (fun _=>true) true 24 v d p):
  ∃ r A c,v=valX r A c∧KidsX (LtX W.heap.size) W A r∧NumX r:=by
 obtain⟨f0,f1,f2,f3,f4,hs,_⟩:=expr_fields;obtain⟨cs,rfl,hsz⟩:=okWide_struct hs hv;obtain⟨fuel,hf⟩:=h;obtain⟨r,A,c,h1,h2,h3⟩:=open_treeX (fuel+1) fuel _ _ (Nat.lt_succ_self _) hf;refine⟨r,A,c,?_,h2,h3⟩;have h1:cs.toList=(valX r A c).cells.toList:=h1;obtain⟨k,n,nm,op,ks⟩:=r;have:cs=(valX (.mk k n nm op ks) A c).cells:=Array.toList_inj.1 h1;rw[this]
 rfl
end
end
end Go.Proofs.YthghbdeaenjckaaGreatDoor
