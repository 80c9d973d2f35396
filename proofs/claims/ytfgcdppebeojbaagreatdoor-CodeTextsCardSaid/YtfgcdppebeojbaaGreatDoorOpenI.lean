import Derived.ProofKit
import Derived.OpenShut
import Derived.ShutString
import Derived.Carry
import Derived.Deep.SlicePairs
import Derived.Deep.Slices
import Derived.Test.YtfgcdppebeojbaaGreatDoorCo4
namespace Go.Proofs.YtfgcdppebeojbaaGreatDoor
open Go Go.RowKit
set_option maxRecDepth 100000
section
open Go Go.ChangeShapes Go.WideShapes Go.ChangeAt Go.RowKit Go.Deep
theorem cellsInsI:Tryz.prog.cellsOf 46=11:=by kernel_rfl
theorem cellsIntI:Tryz.prog.cellsOf 3=1:=by kernel_rfl
theorem cellsI64I:Tryz.prog.cellsOf 2=1:=by kernel_rfl
theorem cellsStrI:Tryz.prog.cellsOf 9=1:=by kernel_rfl
theorem cellsPtsI:Tryz.prog.cellsOf 41=1:=by kernel_rfl
theorem cellsKdsI:Tryz.prog.cellsOf 42=1:=by kernel_rfl
theorem cellsLstI:Tryz.prog.cellsOf 40=1:=by kernel_rfl
theorem cellsExI:Tryz.prog.cellsOf 44=5:=by kernel_rfl
theorem laidOutI:laidOutB Tryz.prog=true:=by kernel_rfl
theorem readableI:Tryz.prog.readableRec 25=true:=by kernel_rfl
theorem rowIT:25<Tryz.prog.types.size:=by decide+kernel
theorem ex_fieldsI:∃ f0 f1 f2 f3 f4:Field,Tryz.prog.underlying 44=some (.struct #[f0,f1,f2,f3,f4])∧(f0.offset=0∧f1.offset=1∧f2.offset=2∧f3.offset=3∧f4.offset=4)∧f0.type=3∧f1.type=2∧f2.type=9∧f3.type=9∧f4.type=42:=by
 refine⟨_,_,_,_,_,Tryz.underlying44,⟨?_,?_,?_,?_,?_⟩,?_,?_,?_,?_,?_⟩ <;> rfl
theorem ins_fieldsI:∃ f0 f1 f2 f3 f4 f5 f6:Field,Tryz.prog.underlying 46=some (.struct #[f0,f1,f2,f3,f4,f5,f6])∧(f0.offset=0∧f1.offset=1∧f2.offset=2∧f3.offset=3∧f4.offset=4∧f5.offset=5∧f6.offset=10)∧
  f0.type=3∧f1.type=3∧f2.type=9∧f3.type=2∧f4.type=41∧f5.type=44∧f6.type=40:=by
 refine⟨_,_,_,_,_,_,_,Tryz.underlying46,⟨?_,?_,?_,?_,?_,?_,?_⟩,?_,?_,?_,?_,?_,?_,?_⟩ <;> rfl
section
variable {H:Type} {enc:TypeId × Value→H} {W:World}
theorem open_sliceI {t e:TypeId} (ht:Tryz.prog.underlying t=some (.slice e)) {fuel:Nat} {v:Value} {x:DataW H × List MemPlace} (h:DataW.trod enc Tryz.prog W 0 (fun _=>true) true fuel t [v]=some x):∃ p n c,v= .slice p n c:=by
 rcases DataW.trod_slice ht h with ⟨h0,_⟩ | ⟨a,len,cap,elems,rest,m2,hf,hcs,_⟩
 ·injection h0 with h0 _
  exact⟨_,_,_,h0⟩
 ·injection hcs with hcs _
  exact⟨_,_,_,hcs⟩
theorem open_insI {fuel:Nat} {cs:List Value} {x:DataW H × List MemPlace} (h:DataW.trod enc Tryz.prog W 0 (fun _=>true) true fuel 46 cs=some x):∃ r:Ins,cs=cellsI r∧okN r.a:=by
 obtain⟨f0,f1,f2,f3,f4,f5,f6,hs,⟨o0,o1,o2,o3,o4,o5,o6⟩,t0,t1,t2,t3,t4,t5,t6⟩:=ins_fieldsI;obtain⟨xs,m,hfu,_,hl,hxl,hf⟩:=DataW.trod_struct hs h;rw[cellsInsI] at hl
 match cs,hl,xs,hxl with
 | [c0,c1,c2,c3,c4,c5,c6,c7,c8,c9,c10],_,[y0,y1,y2,y3,y4,y5,y6],_=>
   have g0:=hf 0 f0 rfl;have g1:=hf 1 f1 rfl;have g2:=hf 2 f2 rfl;have g3:=hf 3 f3 rfl;have g4:=hf 4 f4 rfl;have g5:=hf 5 f5 rfl;have g6:=hf 6 f6 rfl;rw[o0,t0,cellsIntI] at g0;rw[o1,t1,cellsIntI] at g1;rw[o2,t2,cellsStrI] at g2;rw[o3,t3,cellsI64I] at g3;rw[o4,t4,cellsPtsI] at g4;rw[o5,t5,cellsExI] at g5;rw[o6,t6,cellsLstI] at g6;simp only[List.drop_zero,List.drop_succ_cons,List.take_succ_cons,List.take_zero] at g0 g1 g2 g3 g4 g5 g6;obtain⟨op,e0,_,_⟩:=DataW.trod_int Tryz.underlying3 g0;obtain⟨a,e1,_,w1⟩:=DataW.trod_int Tryz.underlying3 g1;obtain⟨nm,e2,_⟩:=DataW.trod_string Tryz.underlying9 g2;obtain⟨n,e3,_,_⟩:=DataW.trod_int Tryz.underlying2 g3;obtain⟨p,pn,pc,e4⟩:=open_sliceI Tryz.underlying41 g4;obtain⟨l,ln,lc,e10⟩:=open_sliceI Tryz.underlying40 g6;obtain⟨j0,j1,j2,j3,j4,js,⟨w0,w1',w2,w3,w4⟩,u0,u1,u2,u3,u4⟩:=ex_fieldsI;obtain⟨zs,m2,_,_,_,hzl,hz⟩:=DataW.trod_struct js g5
   match zs,hzl with
   | [z0,z1,z2,z3,z4],_=>
     have i0:=hz 0 j0 rfl;have i1:=hz 1 j1 rfl;have i2:=hz 2 j2 rfl;have i3:=hz 3 j3 rfl;have i4:=hz 4 j4 rfl;rw[w0,u0,cellsIntI] at i0;rw[w1',u1,cellsI64I] at i1;rw[w2,u2,cellsStrI] at i2;rw[w3,u3,cellsStrI] at i3;rw[w4,u4,cellsKdsI] at i4;simp only[List.drop_zero,List.drop_succ_cons,List.take_succ_cons,List.take_zero] at i0 i1 i2 i3 i4;obtain⟨ck,e5,_,_⟩:=DataW.trod_int Tryz.underlying3 i0;obtain⟨cn,e6,_,_⟩:=DataW.trod_int Tryz.underlying2 i1;obtain⟨cs,e7,_⟩:=DataW.trod_string Tryz.underlying9 i2;obtain⟨co,e8,_⟩:=DataW.trod_string Tryz.underlying9 i3;obtain⟨x,xn,xc,e9⟩:=open_sliceI Tryz.underlying42 i4;simp only[List.cons.injEq,and_true] at e0 e1 e2 e3 e5 e6 e7 e8;exact⟨⟨op,a,nm,n,p,pn,pc,ck,cn,cs,co,x,xn,xc,l,ln,lc⟩,by rw[e0,e1,e2,e3,e4,e5,e6,e7,e8,e9,e10];rfl,bounds_i64 w1⟩
theorem open_instrs {base:Nat} {v:Value} {d:DataW H} {p:List MemPlace} (hv:Value.okWide Tryz.prog W .any base 25 v) (h:DataW.Trod enc Tryz.prog W 0 (fun _=>true) true 25 v d p):
  ∃ A n c G,v= .slice A n c∧RdI W A n G:=by
 obtain⟨A,n,c,rfl⟩:=okWide_slice Tryz.underlying25 hv;obtain⟨fuel,hf⟩:=h;rw[show (Value.slice A n c).cells.toList=[.slice A n c] from rfl] at hf
 rcases DataW.trod_slice Tryz.underlying25 hf with ⟨h0,_⟩ | ⟨a,len,cap,elems,rest,m2,hf,hcs,_,_,_,_,hlen,hel,_,_⟩
 ·injection h0 with h0 _
  injection h0 with h1 h2 h3
  subst h1 h2 h3;exact⟨none,0,0,fun _=>⟨0,0,⟨#[]⟩,0,none,0,0,0,0,⟨#[]⟩,⟨#[]⟩,none,0,0,none,0,0⟩,rfl,fun i hi=>by omega⟩
 ·injection hcs with hcs _
  injection hcs with h1 h2 h3
  subst h1 h2 h3
  have each:∀ i,i<n→∃ r:Ins,okN r.a∧LieL W (a.add (i * 11)) (cellsI r):=by
   intro i hi;have h1:=hel i hi;rw[cellsInsI,List.getElem?_eq_getElem (by omega)] at h1;obtain⟨cs',h2,h3⟩:=Option.bind_eq_some_iff.1 h1;obtain⟨_,hl9,hcell⟩:=World.cells?_some h2;obtain⟨r,rfl,hok⟩:=open_insI h3;refine⟨r,hok,fun j u hu=>?_⟩;have hj:j<(cellsI r).length:=(List.getElem?_eq_some_iff.1 hu).1;have hj2:j<11:=hj;rw[hcell j (by omega),hu]
  haveI:Inhabited Ins:=⟨⟨0,0,⟨#[]⟩,0,none,0,0,0,0,⟨#[]⟩,⟨#[]⟩,none,0,0,none,0,0⟩⟩
  obtain⟨G,hG⟩:=choose_lt each;exact⟨some a,n,c,G,rfl,fun i hi=>⟨(hG i hi).1,a,rfl,(hG i hi).2⟩⟩
end
end
end Go.Proofs.YtfgcdppebeojbaaGreatDoor
