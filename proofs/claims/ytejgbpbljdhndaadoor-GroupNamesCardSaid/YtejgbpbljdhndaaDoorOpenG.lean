import Derived.ProofKit
import Derived.OpenShut
import Derived.ShutString
import Derived.Carry
import Derived.Deep.SlicePairs
import Derived.Test.YtejgbpbljdhndaaDoorTree2
import Derived.Test.YtejgbpbljdhndaaDoorG13
namespace Go.Proofs.YtejgbpbljdhndaaDoor
open Go Go.RowKit
set_option maxRecDepth 100000
section
open Go Go.ChangeShapes Go.WideShapes Go.ChangeAt Go.RowKit Go.Deep
theorem y63:Tryd.prog.cellsOf 27=9:=by kernel_rfl
theorem y53:Tryd.prog.cellsOf 24=4:=by kernel_rfl
theorem x2p:Tryd.prog.cellsOf 25=1:=by kernel_rfl
theorem y8g:Tryd.prog.cellsOf 22=1:=by kernel_rfl
theorem z9w:Tryd.prog.cellsOf 3=1:=by kernel_rfl
theorem y06:laidOutB Tryd.prog=true:=by kernel_rfl
theorem y3k:Tryd.prog.readableRec 27=true:=by kernel_rfl
theorem row27:27<Tryd.prog.types.size:=by decide+kernel
theorem z7x:∃ f0 f1 f2 f3 f4 f5:Field,Tryd.prog.underlying 27=some (.struct #[f0,f1,f2,f3,f4,f5])∧(f0.offset=0∧f1.offset=1∧f2.offset=5∧f3.offset=6∧f4.offset=7∧f5.offset=8)∧f0.type=3∧f1.type=24∧f2.type=25∧f3.type=3∧f4.type=3∧f5.type=3:=by
 refine⟨_,_,_,_,_,_,Tryd.underlying27,⟨?_,?_,?_,?_,?_,?_⟩,?_,?_,?_,?_,?_,?_⟩ <;> rfl
theorem z87 {y:Int} (h:(Lit.int .u64 y).wf=true):∃ c:UInt64,y=(c.toNat:Int):=by
 obtain⟨h0,h1⟩:=bounds_u64 h;refine⟨UInt64.ofNat y.toNat,?_⟩;rw[UInt64.toNat_ofNat',Nat.mod_eq_of_lt (by omega)];omega
section
variable {H:Type} {enc:TypeId × Value→H} {W:World}
theorem y37 {fuel:Nat} {cs:List Value} {x:DataW H × List MemPlace} (h:DataW.trod enc Tryd.prog W 0 (fun _=>true) true fuel 24 cs=some x):
  ∃ S:S4,cs=[.int .u64 S.1.toNat,.int .u64 S.2.1.toNat,.int .u64 S.2.2.1.toNat,.int .u64 S.2.2.2.toNat]:=by
 obtain⟨xs,m,_,_,hl,hxl,hf⟩:=DataW.trod_array Tryd.underlying24 h;rw[y53] at hl
 match cs,hl,xs,hxl with
 | [c0,c1,c2,c3],_,[y0,y1,y2,y3],_=>
   have g0:=hf 0 (by omega);have g1:=hf 1 (by omega);have g2:=hf 2 (by omega);have g3:=hf 3 (by omega);rw[y8g] at g0 g1 g2 g3;simp at g0 g1 g2 g3;obtain⟨n0,e0,_,w0⟩:=DataW.trod_int Tryd.underlying22 g0;obtain⟨n1,e1,_,w1⟩:=DataW.trod_int Tryd.underlying22 g1;obtain⟨n2,e2,_,w2⟩:=DataW.trod_int Tryd.underlying22 g2;obtain⟨n3,e3,_,w3⟩:=DataW.trod_int Tryd.underlying22 g3;simp only[List.cons.injEq,and_true] at e0 e1 e2 e3;obtain⟨s0,rfl⟩:=z87 w0;obtain⟨s1,rfl⟩:=z87 w1;obtain⟨s2,rfl⟩:=z87 w2;obtain⟨s3,rfl⟩:=z87 w3;exact⟨(s0,s1,s2,s3),by rw[e0,e1,e2,e3]⟩
theorem y51 {fuel:Nat} {cs:List Value} {x:DataW H × List MemPlace} (h:DataW.trod enc Tryd.prog W 0 (fun _=>true) true fuel 27 cs=some x):
  ∃ (k:Int) (S:S4) (v:Value) (lo hi n:Int) (m:Nat) (y:DataW H × List MemPlace),fuel=m+1∧
   cs=[.int .i64 k,.int .u64 S.1.toNat,.int .u64 S.2.1.toNat,.int .u64 S.2.2.1.toNat,.int .u64 S.2.2.2.toNat,v,.int .i64 lo,.int .i64 hi,.int .i64 n]∧
   DataW.trod enc Tryd.prog W 0 (fun _=>true) true m 25 [v]=some y:=by
 obtain⟨f0,f1,f2,f3,f4,f5,hs,⟨o0,o1,o2,o3,o4,o5⟩,t0,t1,t2,t3,t4,t5⟩:=z7x;obtain⟨xs,m,hfu,_,hl,hxl,hf⟩:=DataW.trod_struct hs h;rw[y63] at hl
 match cs,hl,xs,hxl with
 | [c0,c1,c2,c3,c4,c5,c6,c7,c8],_,[y0,y1,y2,y3,y4,y5],_=>
   have g0:=hf 0 f0 rfl;have g1:=hf 1 f1 rfl;have g2:=hf 2 f2 rfl;have g3:=hf 3 f3 rfl;have g4:=hf 4 f4 rfl;have g5:=hf 5 f5 rfl;rw[o0,t0,z9w] at g0;rw[o1,t1,y53] at g1;rw[o2,t2,x2p] at g2;rw[o3,t3,z9w] at g3;rw[o4,t4,z9w] at g4;rw[o5,t5,z9w] at g5;simp only[List.drop_zero,List.drop_succ_cons,List.take_succ_cons,List.take_zero] at g0 g1 g2 g3 g4 g5;obtain⟨k,e0,_,_⟩:=DataW.trod_int Tryd.underlying3 g0;obtain⟨S,e1⟩:=y37 g1;obtain⟨lo,e3,_,_⟩:=DataW.trod_int Tryd.underlying3 g3;obtain⟨hi,e4,_,_⟩:=DataW.trod_int Tryd.underlying3 g4;obtain⟨n,e5,_,_⟩:=DataW.trod_int Tryd.underlying3 g5;simp only[List.cons.injEq,and_true] at e0 e1 e3 e4 e5;obtain⟨e11,e12,e13,e14⟩:=e1;exact⟨k,S,c5,lo,hi,n,m,y2,hfu,by rw[e0,e11,e12,e13,e14,e3,e4,e5],g2⟩
theorem y1v {P:Nat→Prop} {w:World} {ad:Addr}:∀ (l:List Re) (i:Nat),(∀ k r,l[k]?=some r→∃ A c,At9 w (ad.add ((i+k) * 9)) r A c∧Kids P w A r)→KidsL P w ad i l
 | [],i,_=>by rw[KidsL];trivial
 | r::l,i,h=>by
   rw[KidsL];refine⟨by have:=h 0 r rfl;rwa [Nat.add_zero] at this,y1v l (i+1) fun k r' hk=>?_⟩;have:=h (k+1) r' (by simpa using hk);rwa [show i+(k+1)=i+1+k by omega] at this
theorem At9.lt {w:World} {a:Addr} {r:Re} {A:Option Addr} {c:Nat} (h:At9 w a r A c):a.block<w.heap.size:=by
 obtain⟨k,S,ks,lo,hi,n⟩:=r;exact World.block_lt_of_cell? w _ h.1
theorem y0r:∀ (N fuel:Nat) (cs:List Value) (x:DataW H × List MemPlace),fuel<N→DataW.trod enc Tryd.prog W 0 (fun _=>true) true fuel 27 cs=some x→
  ∃ (r:Re) (A:Option Addr) (c:Nat),cs=(valR r A c).cells.toList∧Kids (Lt W.heap.size) W A r
 | 0,fuel,cs,x,hN,_=>by omega
 | N+1,fuel,cs,x,hN,h=>by
   obtain⟨k,S,v,lo,hi,n,m,y,rfl,rfl,hk⟩:=y51 h
   rcases DataW.trod_slice Tryd.underlying25 hk with ⟨h0,_⟩ | ⟨a,len,cap,elems,rest,m2,rfl,hc,_,_,_,_,hlen,hel,_,_⟩
   ·injection h0 with h0 _
    subst h0;exact⟨.mk k S [] lo hi n,none,0,rfl,by rw[Kids];exact .inl rfl⟩
   ·injection hc with hc _
    subst hc
    have each:∀ i,i<len→∃ r:Re,∃ A c,At9 W (a.add (i * 9)) r A c∧Kids (Lt W.heap.size) W A r:=by
     intro i hi;have h1:=hel i hi;rw[y63,List.getElem?_eq_getElem (by omega)] at h1;obtain⟨cs',h2,h3⟩:=Option.bind_eq_some_iff.1 h1;obtain⟨_,hl9,hcell⟩:=World.cells?_some h2;obtain⟨r,A,c,rfl,hkr⟩:=y0r N m2 cs' _ (by omega) h3;refine⟨r,A,c,?_,hkr⟩;obtain⟨k',S',ks',lo',hi',n'⟩:=r;have c0:=hcell 0 (by omega);have c1:=hcell 1 (by omega);have c2:=hcell 2 (by omega);have c3:=hcell 3 (by omega);have c4:=hcell 4 (by omega);have c5:=hcell 5 (by omega);have c6:=hcell 6 (by omega);have c7:=hcell 7 (by omega);have c8:=hcell 8 (by omega);rw[add_add] at c0 c1 c2 c3 c4 c5 c6 c7 c8;refine⟨?_,?_,?_,?_,?_,?_,?_,?_,?_⟩
     ·rw[Nat.add_zero] at c0;rw[c0];rfl
     ·rw[z23 _ _ _ (by omega),c1];rfl
     ·rw[z23 _ _ _ (by omega),c2];rfl
     ·rw[z23 _ _ _ (by omega),c3];rfl
     ·rw[z23 _ _ _ (by omega),c4];rfl
     ·rw[z23 _ _ _ (by omega),c5];rfl
     ·rw[z23 _ _ _ (by omega),c6];rfl
     ·rw[z23 _ _ _ (by omega),c7];rfl
     ·rw[z23 _ _ _ (by omega),c8];rfl
    have hinh:Inhabited Re:=⟨.mk 0 none4 [] 0 0 0⟩;obtain⟨G,hG⟩:=choose_lt each;have hl:((List.range len).map G).length=len:=by simp
    refine⟨.mk k S ((List.range len).map G) lo hi n,some a,cap,by rw[valR,hl];rfl,?_⟩;rw[Kids];by_cases h0:len=0
    ·left;subst h0;rfl
    ·right
     refine⟨a,rfl,?_,y1v _ 0 fun i r hr=>?_⟩
     ·obtain⟨A,c,h9,_⟩:=hG 0 (by omega)
      have:=At9.lt h9;rwa [z0j] at this
     ·rw[List.getElem?_map,Option.map_eq_some_iff] at hr
      obtain⟨j,hj,rfl⟩:=hr;obtain⟨hlt,hji⟩:=List.getElem?_eq_some_iff.1 hj;simp at hlt hji;subst hji;rw[Nat.zero_add];exact hG i hlt
theorem x2l {base:Nat} {v:Value} {d:DataW H} {p:List MemPlace} (hv:Value.okWide Tryd.prog W .any base 27 v) (h:DataW.Trod enc Tryd.prog W 0 (fun _=>true) true 27 v d p):
  ∃ r A c,v=valR r A c∧Kids (Lt W.heap.size) W A r:=by
 obtain⟨f0,f1,f2,f3,f4,f5,hs,_⟩:=z7x;obtain⟨cs,rfl,hsz⟩:=okWide_struct hs hv;obtain⟨fuel,hf⟩:=h;obtain⟨r,A,c,h1,h2⟩:=y0r (fuel+1) fuel _ _ (Nat.lt_succ_self _) hf;refine⟨r,A,c,?_,h2⟩;have h1:cs.toList=(valR r A c).cells.toList:=h1;obtain⟨k,S,ks,lo,hi,n⟩:=r;have:cs=(valR (.mk k S ks lo hi n) A c).cells:=Array.toList_inj.1 h1;rw[this]
 rfl
end
end
section
open Go Go.ChangeShapes Go.WideShapes Go.ChangeAt Go.RowKit Go.Deep
open Go.ChangeMaps (open_string shut_string)
set_option linter.unusedVariables false
section
variable {H:Type} {enc:TypeId × Value→H} {W:World}
theorem x1r:Tryd.prog.cellsOf 28=2:=by kernel_rfl
theorem x1y:Tryd.prog.cellsOf 5=1:=by kernel_rfl
theorem x2w:Tryd.prog.cellsOf 44=20:=by kernel_rfl
theorem x1d:Tryd.prog.cellsOf 43=2:=by kernel_rfl
theorem y3d:Tryd.prog.readableRec 28=true:=by kernel_rfl
theorem row28:28<Tryd.prog.types.size:=by decide+kernel
theorem y3n:Tryd.prog.readableRec 44=true:=by kernel_rfl
theorem row44:44<Tryd.prog.types.size:=by decide+kernel
theorem z70 {P:Program} {w:World} {base:Nat} {t n e:Nat} {v:Value} (ht:P.underlying t=some (.array n e)) (h:Value.okWide P w .any base t v):∃ cs,v= .agg cs∧cs.size=P.cellsOf t:=by
 simp only[Value.okWide,ht] at h;obtain⟨cs,h1,h2,_⟩:=h;exact⟨cs,h1,h2⟩
theorem y7c {base:Nat} {v:Value} {d:DataW H} {p:List MemPlace} (hv:Value.okWide Tryd.prog W .any base 28 v) (h:DataW.Trod enc Tryd.prog W 0 (fun _=>true) true 28 v d p):
  ∃ a0 a1:Nat,a0<256∧a1<256∧v= .agg #[.int .u8 (a0:Nat),.int .u8 (a1:Nat)]:=by
 obtain⟨cs,rfl,hsz⟩:=z70 Tryd.underlying28 hv;obtain⟨fuel,hf⟩:=h;obtain⟨xs,m,_,_,hl,hxl,hg⟩:=DataW.trod_array Tryd.underlying28 hf;rw[x1r] at hl;have hl2:cs.toList.length=2:=hl;obtain⟨l,hcl⟩:∃ l,l=cs.toList:=⟨_,rfl⟩;have hcs:cs=l.toArray:=by rw[hcl]
 subst hcs
 match l,hl2,xs,hxl with
 | [c0,c1],_,[y0,y1],_=>
   have g0:=hg 0 (by omega);have g1:=hg 1 (by omega);rw[x1y] at g0 g1;have g0:DataW.trod enc Tryd.prog W 0 (fun _=>true) true m 5 [c0]=some y0:=g0;have g1:DataW.trod enc Tryd.prog W 0 (fun _=>true) true m 5 [c1]=some y1:=g1;obtain⟨n0,e0,_,w0⟩:=DataW.trod_int Tryd.underlying5 g0;obtain⟨n1,e1,_,w1⟩:=DataW.trod_int Tryd.underlying5 g1;simp only[List.cons.injEq,and_true] at e0 e1;obtain⟨b0,b0'⟩:=bounds_u8 w0;obtain⟨b1,b1'⟩:=bounds_u8 w1;refine⟨n0.toNat,n1.toNat,by omega,by omega,?_⟩;rw[e0,e1,Int.toNat_of_nonneg b0,Int.toNat_of_nonneg b1]
def cutsOf (cs:Array Value) (n:Nat):Int × Int:=match cs[n * 2]?,cs[n * 2+1]? with
 | some (.int .i64 x),some (.int .i64 y)=>(x,y)
 | _,_=>(0,0)
theorem y5x {base:Nat} {v:Value} {d:DataW H} {p:List MemPlace} (hv:Value.okWide Tryd.prog W .any base 44 v) (h:DataW.Trod enc Tryd.prog W 0 (fun _=>true) true 44 v d p):∃ L,v= .agg (cutsA L):=by
 obtain⟨cs,rfl,hsz⟩:=z70 Tryd.underlying44 hv;rw[x2w] at hsz;obtain⟨fuel,hf⟩:=h;obtain⟨xs,m,_,_,hl,hxl,hg⟩:=DataW.trod_array Tryd.underlying44 hf
 have hn:∀ n,n<10→∃ x y:Int,cs[n * 2]?=some (.int .i64 x)∧cs[n * 2+1]?=some (.int .i64 y):=fun n hn=>by
  have g:=hg n hn;rw[x1d,List.getElem?_eq_getElem (by omega)] at g;obtain⟨ys,m2,_,_,hl2,hyl,hg2⟩:=DataW.trod_array Tryd.underlying43 g;obtain⟨l,hcl⟩:∃ l,l=(cs.toList.drop (n * 2)).take 2:=⟨_,rfl⟩;have hls:l.length=2:=by rw[hcl,List.length_take,List.length_drop,Array.length_toList,hsz];omega
  have k0:cs[n * 2]?=l[0]?:=by rw[hcl,List.getElem?_take,if_pos (by omega),List.getElem?_drop,Nat.add_zero,Array.getElem?_toList]
  have k1:cs[n * 2+1]?=l[1]?:=by rw[hcl,List.getElem?_take,if_pos (by omega),List.getElem?_drop,Array.getElem?_toList]
  have hg3:∀ i,i<2→DataW.trod enc Tryd.prog W 0 (fun _=>true) true m2 3 ((l.drop (i * Tryd.prog.cellsOf 3)).take (Tryd.prog.cellsOf 3))=ys[i]?:=by rw[hcl];exact hg2
  match l,hls,ys,hyl with
  | [c0,c1],_,[y0,y1],_=>
    have a0:=hg3 0 (by omega);have a1:=hg3 1 (by omega);rw[z9w] at a0 a1;have a0:DataW.trod enc Tryd.prog W 0 (fun _=>true) true m2 3 [c0]=some y0:=a0;have a1:DataW.trod enc Tryd.prog W 0 (fun _=>true) true m2 3 [c1]=some y1:=a1;obtain⟨n0,e0,_,_⟩:=DataW.trod_int Tryd.underlying3 a0;obtain⟨n1,e1,_,_⟩:=DataW.trod_int Tryd.underlying3 a1;simp only[List.cons.injEq,and_true] at e0 e1;subst e0 e1;exact⟨n0,n1,k0,k1⟩
 refine⟨cutsOf cs,?_⟩
 congr 1
 apply Array.ext_getElem?;intro i;by_cases hi:i<20
 ·obtain⟨x,y,h0,h1⟩:=hn (i / 2) (by omega)
  have hc:=z19 (cutsOf cs) (n:=i / 2) (by omega);have hL:cutsOf cs (i / 2)=(x,y):=by unfold cutsOf;rw[h0,h1]
  rw[hL] at hc
  rcases(show i=i / 2 * 2∨i=i / 2 * 2+1 by omega) with h | h
  ·rw[h,h0,hc.1]
  ·rw[h,h1,hc.2]
 ·rw[Array.getElem?_eq_none (by omega),Array.getElem?_eq_none (by rw[y0t];omega)]
end
end
end Go.Proofs.YtejgbpbljdhndaaDoor
