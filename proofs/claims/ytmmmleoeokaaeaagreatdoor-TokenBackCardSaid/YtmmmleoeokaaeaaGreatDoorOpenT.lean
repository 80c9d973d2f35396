import Derived.ProofKit
import Derived.OpenShut
import Derived.ShutString
import Derived.Carry
import Derived.Deep.SlicePairs
import Derived.Deep.Slices
import Derived.Test.YtmmmleoeokaaeaaGreatDoorTkO
namespace Go.Proofs.YtmmmleoeokaaeaaGreatDoor
open Go Go.RowKit
set_option maxRecDepth 100000
section
open Go Go.ChangeShapes Go.WideShapes Go.ChangeAt Go.RowKit Go.Deep
theorem cellsTok:Tryz.prog.cellsOf 32=5:=by kernel_rfl
theorem cellsPart:Tryz.prog.cellsOf 39=2:=by kernel_rfl
theorem cellsInt:Tryz.prog.cellsOf 3=1:=by kernel_rfl
theorem cellsI64:Tryz.prog.cellsOf 2=1:=by kernel_rfl
theorem cellsStr:Tryz.prog.cellsOf 9=1:=by kernel_rfl
theorem cellsParts:Tryz.prog.cellsOf 30=1:=by kernel_rfl
theorem laidOutT:laidOutB Tryz.prog=true:=by kernel_rfl
theorem readableT:Tryz.prog.readableRec 22=true:=by kernel_rfl
theorem rowT:22<Tryz.prog.types.size:=by decide+kernel
theorem part_fields:∃ f0 f1:Field,Tryz.prog.underlying 39=some (.struct #[f0,f1])∧f0.offset=0∧f1.offset=1∧f0.type=9∧f1.type=9:=by
 refine⟨_,_,Tryz.underlying39,?_,?_,?_,?_⟩ <;> rfl
theorem token_fields:∃ f0 f1 f2 f3 f4:Field,Tryz.prog.underlying 32=some (.struct #[f0,f1,f2,f3,f4])∧f0.offset=0∧f1.offset=1∧f2.offset=2∧f3.offset=3∧f4.offset=4∧f0.type=3∧f1.type=9∧f2.type=2∧f3.type=30∧f4.type=3:=by
 refine⟨_,_,_,_,_,Tryz.underlying32,?_,?_,?_,?_,?_,?_,?_,?_,?_,?_⟩ <;> rfl
def psOfT (N T:Nat→ByteArray) (len:Nat):List Pt:=(List.range len).map fun i=>((N i).data.toList,(T i).data.toList)
theorem rd_mkT {w:World} {a:Addr} {len:Nat} (N T:Nat→ByteArray) (h:∀ i,i<len→w.cell? (a.add (i * 2))=some (.string (N i))∧w.cell? (a.add (i * 2+1))=some (.string (T i))):Rd w.heap.size w (some a) len (psOfT N T len):=by
 refine⟨by simp[psOfT],fun hn=>⟨a,rfl,?_,fun j u hu=>?_⟩⟩
 ·have:=World.block_lt_of_cell? w _ (h 0 hn).1
  rwa [block_of_add] at this
 ·have hj:j<(cellsP (psOfT N T len)).length:=(List.getElem?_eq_some_iff.1 hu).1
  rw[cellsP_length] at hj;have hl:(psOfT N T len).length=len:=by simp[psOfT]
  have hi:j / 2<len:=by omega
  have hp:(psOfT N T len)[j / 2]?=some ((N (j / 2)).data.toList,(T (j / 2)).data.toList):=by simp[psOfT,hi]
  obtain⟨c0,c1⟩:=cells_at _ _ _ hp;obtain⟨h0,h1⟩:=h (j / 2) hi
  rcases Nat.mod_two_eq_zero_or_one j with e | e
  ·have ej:j / 2 * 2=j:=by omega
   rw[ej] at c0 h0;rw[c0] at hu;injection hu with hu
   rw[←hu,h0]
  ·have ej:j / 2 * 2+1=j:=by omega
   rw[ej] at c1 h1;rw[c1] at hu;injection hu with hu
   rw[←hu,h1]
section
variable {H:Type} {enc:TypeId × Value→H} {W:World}
theorem open_partsT {fuel:Nat} {v:Value} {x:DataW H × List MemPlace} (h:DataW.trod enc Tryz.prog W 0 (fun _=>true) true fuel 30 [v]=some x):
  ∃ (A:Option Addr) (ps:List Pt) (c:Nat),v= .slice A ps.length c∧Rd W.heap.size W A ps.length ps∧ps.length≤maxLen:=by
 obtain⟨f0,f1,hs,o0,o1,t0,t1⟩:=part_fields
 rcases open_slice_pairs Tryz.underlying30 hs cellsPart o0 o1 (by rw[t0];exact cellsStr) (by rw[t1];exact cellsStr) h with ⟨h0,_⟩ | ⟨a,len,cap,m,k,V0,V1,D0,D1,P0,P1,hc,_,hl,hm,hmeq,_,hall⟩
 ·injection h0 with h0 _
  exact⟨none,[],0,h0,⟨rfl,fun h=>by simp at h⟩,Nat.zero_le _⟩
 ·injection hc with hc _
  simp only[if_true] at hmeq;have hlen:(psOfT (fun i=>match V0 i with | .string s=>s | _=>⟨#[]⟩) (fun i=>match V1 i with | .string s=>s | _=>⟨#[]⟩) len).length=len:=by simp[psOfT]
  refine⟨some a,psOfT (fun i=>match V0 i with | .string s=>s | _=>⟨#[]⟩) (fun i=>match V1 i with | .string s=>s | _=>⟨#[]⟩) len,cap,by rw[hlen,hc],?_,by rw[hlen];exact Nat.le_trans hl hm⟩;rw[hlen];refine rd_mkT _ _ (fun i hi=>?_);obtain⟨c0,c1,x0,x1⟩:=hall i (by omega);rw[t0] at x0;rw[t1] at x1;obtain⟨s0,y0,_⟩:=DataW.trod_string Tryz.underlying9 x0;obtain⟨s1,y1,_⟩:=DataW.trod_string Tryz.underlying9 x1;simp only[List.cons.injEq,and_true] at y0 y1;rw[c0,c1,y0,y1];exact⟨rfl,rfl⟩
theorem open_tokens {base:Nat} {v:Value} {d:DataW H} {p:List MemPlace}
  (hv:Value.okWide Tryz.prog W .any base 22 v) (h:DataW.Trod enc Tryz.prog W 0 (fun _=>true) true 22 v d p):∃ A n c ts,v= .slice A n c∧RdT W.heap.size W A n ts∧n≤maxLen∧(∀ t∈ts,t.parts.length≤maxLen)∧∀ t∈ts, -9223372036854775808≤t.n∧t.n≤9223372036854775807:=by
 obtain⟨A,n,c,rfl⟩:=okWide_slice Tryz.underlying22 hv;obtain⟨fuel,hf⟩:=h;obtain⟨f0,f1,f2,f3,f4,hs,o0,o1,o2,o3,o4,t0,t1,t2,t3,t4⟩:=token_fields;have hcs:(Value.slice A n c).cells.toList=[.slice A n c]:=rfl;rw[hcs] at hf
 rcases open_slice Tryz.underlying22 hf with ⟨h0,_⟩ | ⟨a,len,cap,m,k,D,Pl,hc,_,hl,hm,hmeq,_,hall⟩
 ·injection h0 with h0 _
  injection h0 with e1 e2 e3
  subst e1 e2 e3;exact⟨none,0,0,[],rfl,RdT.none_,Nat.zero_le _,by simp,by simp⟩
 ·injection hc with hc _
  injection hc with e1 e2 e3
  subst e1 e2 e3;simp only[if_true] at hmeq
  have each:∀ i,i<n→∃ t:Tok,(∃ A' c',At5 W (a.add (i * 5)) t A' c'∧Rd W.heap.size W A' t.parts.length t.parts)∧t.parts.length≤maxLen∧ -9223372036854775808≤t.n∧t.n≤9223372036854775807:=by
   intro i hi;obtain⟨cs',h1,h2⟩:=hall i (by omega);rw[cellsTok] at h1;obtain⟨_,hlen,hcell⟩:=World.cells?_some h1;obtain⟨xs,k',_,_,_,hxl,hfl⟩:=DataW.trod_struct hs h2
   match xs,hxl,cs',hlen with
   | [y0,y1,y2,y3,y4],_,[v0,v1,v2,v3,v4],_=>
     have g0:=hfl 0 f0 rfl;have g1:=hfl 1 f1 rfl;have g2:=hfl 2 f2 rfl;have g3:=hfl 3 f3 rfl;have g4:=hfl 4 f4 rfl;rw[o0,t0,cellsInt] at g0;rw[o1,t1,cellsStr] at g1;rw[o2,t2,cellsI64] at g2;rw[o3,t3,cellsParts] at g3;rw[o4,t4,cellsInt] at g4;simp only[List.drop_zero,List.drop_succ_cons,List.take_succ_cons,List.take_zero] at g0 g1 g2 g3 g4;have c0:=hcell 0 (by omega);have c1:=hcell 1 (by omega);have c2:=hcell 2 (by omega);have c3:=hcell 3 (by omega);have c4:=hcell 4 (by omega);rw[add_add] at c0 c1 c2 c3 c4;obtain⟨n0,e0,_,_⟩:=DataW.trod_int Tryz.underlying3 g0;obtain⟨s1,e1,_⟩:=DataW.trod_string Tryz.underlying9 g1;obtain⟨n2,e2,_,w2⟩:=DataW.trod_int Tryz.underlying2 g2;obtain⟨n4,e4,_,_⟩:=DataW.trod_int Tryz.underlying3 g4;simp only[List.cons.injEq,and_true] at e0 e1 e2 e4;obtain⟨A',ps,c',e3,hr,hpl⟩:=open_partsT g3;refine⟨⟨n0,s1.data.toList,n2,ps,n4⟩,⟨A',c',⟨?_,?_,?_,?_,?_⟩,hr⟩,hpl,bounds_i64 w2⟩
     ·rw[Nat.add_zero] at c0;rw[c0,e0];rfl
     ·rw[add_oneT _ _ _ (by omega),c1,e1];rfl
     ·rw[add_oneT _ _ _ (by omega),c2,e2];rfl
     ·rw[add_oneT _ _ _ (by omega),c3,e3];rfl
     ·rw[add_oneT _ _ _ (by omega),c4,e4];rfl
  have hinh:Inhabited Tok:=⟨⟨0,[],0,[],0⟩⟩;obtain⟨G,hG⟩:=choose_lt each;refine⟨some a,n,c,(List.range n).map G,rfl,⟨by simp,fun hn=>⟨a,rfl,?_,fun i g hg=>?_⟩⟩,Nat.le_trans hl hm,fun t ht=>?_,fun t ht=>?_⟩
  ·obtain⟨⟨_,_,h3,_⟩,_⟩:=hG 0 hn
   have:=World.block_lt_of_cell? W _ h3.1;rwa [block_of_add] at this
  ·rw[List.getElem?_map,Option.map_eq_some_iff] at hg
   obtain⟨j,hj,rfl⟩:=hg;obtain⟨hlt,hji⟩:=List.getElem?_eq_some_iff.1 hj;simp at hlt hji;subst hji;exact(hG i hlt).1
  ·obtain⟨j,hj,rfl⟩:=List.mem_map.1 ht
   exact(hG j (by simpa using hj)).2.1
  ·obtain⟨j,hj,rfl⟩:=List.mem_map.1 ht
   exact(hG j (by simpa using hj)).2.2
end
end
end Go.Proofs.YtmmmleoeokaaeaaGreatDoor
