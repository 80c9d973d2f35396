import Derived.ProofKit
import Derived.OpenShut
import Derived.ShutString
import Derived.Carry
import Derived.Deep.SlicePairs
import Derived.Test.YtdobinjbejagcaaGreatDoorPm6
namespace Go.Proofs.YtdobinjbejagcaaGreatDoor
open Go Go.RowKit
set_option maxRecDepth 100000
section
open Go Go.ChangeShapes Go.WideShapes Go.ChangeAt Go.RowKit Go.Deep
theorem cellsPe:Tryz.prog.cellsOf 24=2:=by kernel_rfl
theorem cellsPl:Tryz.prog.cellsOf 42=3:=by kernel_rfl
theorem cellsEd:Tryz.prog.cellsOf 39=5:=by kernel_rfl
theorem cellsPls:Tryz.prog.cellsOf 22=1:=by kernel_rfl
theorem cellsEds:Tryz.prog.cellsOf 40=1:=by kernel_rfl
theorem cellsIntP:Tryz.prog.cellsOf 3=1:=by kernel_rfl
theorem cellsStrP:Tryz.prog.cellsOf 9=1:=by kernel_rfl
theorem cellsBoolP:Tryz.prog.cellsOf 4=1:=by kernel_rfl
theorem laidOutP:laidOutB Tryz.prog=true:=by kernel_rfl
theorem readablePe:Tryz.prog.readableRec 24=true:=by kernel_rfl
theorem rowPe:24<Tryz.prog.types.size:=by decide+kernel
theorem edge_fields:∃ f0 f1 f2 f3 f4:Field,Tryz.prog.underlying 39=some (.struct #[f0,f1,f2,f3,f4])∧(f0.offset=0∧f1.offset=1∧f2.offset=2∧f3.offset=3∧f4.offset=4)∧f0.type=3∧f1.type=9∧f2.type=3∧f3.type=3∧f4.type=3:=by
 refine⟨_,_,_,_,_,Tryz.underlying39,⟨?_,?_,?_,?_,?_⟩,?_,?_,?_,?_,?_⟩ <;> rfl
theorem place_fields:∃ f0 f1 f2:Field,Tryz.prog.underlying 42=some (.struct #[f0,f1,f2])∧(f0.offset=0∧f1.offset=1∧f2.offset=2)∧f0.type=9∧f1.type=4∧f2.type=40:=by
 refine⟨_,_,_,Tryz.underlying42,⟨?_,?_,?_⟩,?_,?_,?_⟩ <;> rfl
theorem peer_fields:∃ f0 f1:Field,Tryz.prog.underlying 24=some (.struct #[f0,f1])∧(f0.offset=0∧f1.offset=1)∧f0.type=3∧f1.type=22:=by
 refine⟨_,_,Tryz.underlying24,⟨?_,?_⟩,?_,?_⟩ <;> rfl
theorem text_ofP (X:ByteArray):∃ l:Bs,X=⟨l.toArray⟩:=⟨X.data.toList,by simp⟩
theorem add_atP (a:Addr) (m j:Nat) (hj:0<j):a.add (m+j)=⟨(a.add m).block,(a.add m).off+j,none⟩:=by
 unfold Addr.add;rw[if_neg (by omega)]
 split
 ·rename_i h;subst h;simp
 ·simp;omega
theorem add_addP (a:Addr) (m n:Nat):(a.add m).add n=a.add (m+n):=by
 unfold Addr.add;by_cases h1:m=0
 ·subst h1;simp
 ·by_cases h2:n=0
  ·subst h2;simp
  ·simp[h1,h2];omega
section
variable {H:Type} {enc:TypeId × Value→H} {W:World}
theorem open_edges {fuel:Nat} {v:Value} {x:DataW H × List MemPlace} (h:DataW.trod enc Tryz.prog W 0 (fun _=>true) true fuel 40 [v]=some x):
  ∃ (A:Option Addr) (es:List EdP) (c:Nat),v= .slice A es.length c∧RdE5 W.heap.size W A es.length es:=by
 obtain⟨f0,f1,f2,f3,f4,hs,⟨o0,o1,o2,o3,o4⟩,t0,t1,t2,t3,t4⟩:=edge_fields
 rcases DataW.trod_slice Tryz.underlying40 h with ⟨h0,_⟩ | ⟨a,len,cap,elems,rest,m2,rfl,hc,_,_,_,_,hlen,hel,_,_⟩
 ·injection h0 with h0 _
  subst h0;exact⟨none,[],0,rfl,rfl,fun hn=>by simp at hn⟩
 ·injection hc with hc _
  subst hc
  have each:∀ i,i<len→∃ e:EdP,AtE W (a.add (i * 5)) e:=by
   intro i hi;have h1:=hel i hi;rw[cellsEd,List.getElem?_eq_getElem (by omega)] at h1;obtain⟨cs',h2,h3⟩:=Option.bind_eq_some_iff.1 h1;obtain⟨_,hl9,hcell⟩:=World.cells?_some h2;obtain⟨xs,m,hfu,_,hl,hxl,hf⟩:=DataW.trod_struct hs h3
   match cs',hl9,xs,hxl with
   | [c0,c1,c2,c3,c4],_,[y0,y1,y2,y3,y4],_=>
     have g0:=hf 0 f0 rfl;have g1:=hf 1 f1 rfl;have g2:=hf 2 f2 rfl;have g3:=hf 3 f3 rfl;have g4:=hf 4 f4 rfl;rw[o0,t0,cellsIntP] at g0;rw[o1,t1,cellsStrP] at g1;rw[o2,t2,cellsIntP] at g2;rw[o3,t3,cellsIntP] at g3;rw[o4,t4,cellsIntP] at g4;simp only[List.drop_zero,List.drop_succ_cons,List.take_succ_cons,List.take_zero] at g0 g1 g2 g3 g4;obtain⟨k,e0,_,_⟩:=DataW.trod_int Tryz.underlying3 g0;obtain⟨X,e1,_⟩:=DataW.trod_string Tryz.underlying9 g1;obtain⟨lo,e2,_,_⟩:=DataW.trod_int Tryz.underlying3 g2;obtain⟨hi',e3,_,_⟩:=DataW.trod_int Tryz.underlying3 g3;obtain⟨tt,e4,_,_⟩:=DataW.trod_int Tryz.underlying3 g4;simp only[List.cons.injEq,and_true] at e0 e1 e2 e3 e4;obtain⟨nm,rfl⟩:=text_ofP X;have q0:=hcell 0 (by omega);have q1:=hcell 1 (by omega);have q2:=hcell 2 (by omega);have q3:=hcell 3 (by omega);have q4:=hcell 4 (by omega);rw[add_addP] at q0 q1 q2 q3 q4;refine⟨⟨k,nm,lo,hi',tt⟩,?_,?_,?_,?_,?_⟩
     ·rw[Nat.add_zero] at q0;rw[q0,e0];rfl
     ·rw[←add_atP _ _ _ (by omega),q1,e1];rfl
     ·rw[←add_atP _ _ _ (by omega),q2,e2];rfl
     ·rw[←add_atP _ _ _ (by omega),q3,e3];rfl
     ·rw[←add_atP _ _ _ (by omega),q4,e4];rfl
  have hinh:Inhabited EdP:=⟨⟨0,[],0,0,0⟩⟩;obtain⟨G,hG⟩:=choose_lt each;have hl:((List.range len).map G).length=len:=by simp
  refine⟨some a,(List.range len).map G,cap,by rw[hl],rfl,fun hn=>⟨a,rfl,?_,fun i e he=>?_⟩⟩
  ·have:=World.block_lt_of_cell? W _ (hG 0 (by omega)).1
   rwa [block_of_add] at this
  ·rw[List.getElem?_map,Option.map_eq_some_iff] at he
   obtain⟨j,hj,rfl⟩:=he;obtain⟨hlt,hji⟩:=List.getElem?_eq_some_iff.1 hj;simp at hlt hji;subst hji;exact hG i hlt
theorem open_places {fuel:Nat} {v:Value} {x:DataW H × List MemPlace} (h:DataW.trod enc Tryz.prog W 0 (fun _=>true) true fuel 22 [v]=some x):
  ∃ (A:Option Addr) (xs:List PlP) (c:Nat),v= .slice A xs.length c∧RdX W.heap.size W A xs.length xs∧xs.length≤c:=by
 obtain⟨f0,f1,f2,hs,⟨o0,o1,o2⟩,t0,t1,t2⟩:=place_fields
 rcases DataW.trod_slice Tryz.underlying22 h with ⟨h0,_⟩ | ⟨a,len,cap,elems,rest,m2,rfl,hc,_,_,hlc,_,hlen,hel,_,_⟩
 ·injection h0 with h0 _
  subst h0;exact⟨none,[],0,rfl,⟨rfl,fun hn=>by simp at hn⟩,Nat.le_refl _⟩
 ·injection hc with hc _
  subst hc
  have each:∀ i,i<len→∃ x:PlP,∃ A' c',AtX W (a.add (i * 3)) x A' c'∧RdE5 W.heap.size W A' x.edges.length x.edges:=by
   intro i hi;have h1:=hel i hi;rw[cellsPl,List.getElem?_eq_getElem (by omega)] at h1;obtain⟨cs',h2,h3⟩:=Option.bind_eq_some_iff.1 h1;obtain⟨_,hl9,hcell⟩:=World.cells?_some h2;obtain⟨xs,m,hfu,_,hl,hxl,hf⟩:=DataW.trod_struct hs h3
   match cs',hl9,xs,hxl with
   | [c0,c1,c2],_,[y0,y1,y2],_=>
     have g0:=hf 0 f0 rfl;have g1:=hf 1 f1 rfl;have g2:=hf 2 f2 rfl;rw[o0,t0,cellsStrP] at g0;rw[o1,t1,cellsBoolP] at g1;rw[o2,t2,cellsEds] at g2;simp only[List.drop_zero,List.drop_succ_cons,List.take_succ_cons,List.take_zero] at g0 g1 g2;obtain⟨X,e0,_⟩:=DataW.trod_string Tryz.underlying9 g0;obtain⟨bb,e1,_⟩:=DataW.trod_bool Tryz.underlying4 g1;obtain⟨A',es,c',e2,hr⟩:=open_edges g2;simp only[List.cons.injEq,and_true] at e0 e1;obtain⟨nm,rfl⟩:=text_ofP X;have q0:=hcell 0 (by omega);have q1:=hcell 1 (by omega);have q2:=hcell 2 (by omega);rw[add_addP] at q0 q1 q2;refine⟨⟨nm,bb,es⟩,A',c',⟨?_,?_,?_⟩,hr⟩
     ·rw[Nat.add_zero] at q0;rw[q0,e0];rfl
     ·rw[←add_atP _ _ _ (by omega),q1,e1];rfl
     ·rw[←add_atP _ _ _ (by omega),q2,e2];rfl
  have hinh:Inhabited PlP:=⟨⟨[],false,[]⟩⟩;obtain⟨G,hG⟩:=choose_lt each;have hl:((List.range len).map G).length=len:=by simp
  refine⟨some a,(List.range len).map G,cap,by rw[hl],⟨rfl,fun hn=>⟨a,rfl,?_,fun i e he=>?_⟩⟩,by rw[hl];exact hlc⟩
  ·obtain⟨_,_,h3,_⟩:=hG 0 (by omega)
   have:=World.block_lt_of_cell? W _ h3.1;rwa [block_of_add] at this
  ·rw[List.getElem?_map,Option.map_eq_some_iff] at he
   obtain⟨j,hj,rfl⟩:=he;obtain⟨hlt,hji⟩:=List.getElem?_eq_some_iff.1 hj;simp at hlt hji;subst hji;exact hG i hlt
theorem open_peer {base:Nat} {v:Value} {d:DataW H} {p:List MemPlace} (hv:Value.okWide Tryz.prog W .any base 24 v) (h:DataW.Trod enc Tryz.prog W 0 (fun _=>true) true 24 v d p):
  ∃ (r:PeP) (A:Option Addr) (c:Nat),v= .agg #[.int .i64 r.cap,.slice A r.places.length c]∧RdX W.heap.size W A r.places.length r.places∧r.places.length≤c:=by
 obtain⟨f0,f1,hs,⟨o0,o1⟩,t0,t1⟩:=peer_fields;obtain⟨cs,rfl,hsz⟩:=okWide_struct hs hv;obtain⟨fuel,hf⟩:=h;have hcs:(Value.agg cs).cells.toList=cs.toList:=rfl;rw[hcs] at hf;obtain⟨xs,m,hfu,_,hl,hxl,hf⟩:=DataW.trod_struct hs hf;rw[cellsPe] at hl;obtain⟨l,hlc⟩:∃ l,l=cs.toList:=⟨_,rfl⟩;rw[←hlc] at hl hf
 match l,hl,xs,hxl,hlc with
 | [c0,c1],_,[y0,y1],_,hlc=>
   have g0:=hf 0 f0 rfl;have g1:=hf 1 f1 rfl;rw[o0,t0,cellsIntP] at g0;rw[o1,t1,cellsPls] at g1;simp only[List.drop_zero,List.drop_succ_cons,List.take_succ_cons,List.take_zero] at g0 g1;obtain⟨k,e0,_,_⟩:=DataW.trod_int Tryz.underlying3 g0;obtain⟨A,ps,c,e1,hr⟩:=open_places g1;simp only[List.cons.injEq,and_true] at e0;refine⟨⟨k,ps⟩,A,c,?_,hr⟩;have:cs=#[.int .i64 k,.slice A ps.length c]:=Array.toList_inj.1 (by rw[←hlc,e0,e1]);rw[this]
end
end
end Go.Proofs.YtdobinjbejagcaaGreatDoor
