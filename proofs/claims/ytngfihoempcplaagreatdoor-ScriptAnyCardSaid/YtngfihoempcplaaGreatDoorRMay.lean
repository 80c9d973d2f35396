import Derived.Test.YtngfihoempcplaaGreatDoorCf
import Derived.Test.YtngfihoempcplaaGreatDoorRParse
import Derived.Laws.StructEq
import Derived.RegionTactic
import Derived.ChangeAlike
namespace Go.Proofs.YtngfihoempcplaaGreatDoor
open Go Go.RowKit
set_option maxHeartbeats 1000000
theorem z2t (a:Addr) (n:Nat):(a.add n).block=a.block:=by unfold Addr.add;split <;> rfl
def RdA (B:Nat) (w:World) (ad:Addr) (ps:List Pt):Prop:=ad.block<B∧∀ j u,(cellsP ps)[j]?=some u→w.cell? (ad.add j)=some u
def Rd (B:Nat) (w:World) (A:OA) (n:Nat) (ps:List Pt):Prop:=n=ps.length∧(0<n→∃ ad,A=some ad∧RdA B w ad ps)
theorem RdA.keep {B:Nat} {w w':World} {ad:Addr} {ps:List Pt} (h:RdA B w ad ps) (hb:Below B w w'):RdA B w' ad ps:=
 ⟨h.1,fun j u hu=>(hb.cell (by rw[z2t];exact h.1)).trans (h.2 j u hu)⟩
theorem Rd.keep {B:Nat} {w w':World} {A:OA} {n:Nat} {ps:List Pt} (h:Rd B w A n ps) (hb:Below B w w'):Rd B w' A n ps:=
 ⟨h.1,fun hn=>by obtain⟨ad,e,hr⟩:=h.2 hn;exact⟨ad,e,hr.keep hb⟩⟩
theorem z7w (p:Pt) (r:List Pt):cellsP (p::r)= .string ⟨p.1.toArray⟩:: .string ⟨p.2.toArray⟩::cellsP r:=rfl
theorem y39:∀ (ps:List Pt) (k:Nat) (p:Pt),ps[k]?=some p→(cellsP ps)[k * 2]?=some (.string ⟨p.1.toArray⟩)∧(cellsP ps)[k * 2+1]?=some (.string ⟨p.2.toArray⟩)
 | [],k,p,h=>by simp at h
 | q::r,0,p,h=>by
   injection h with h;subst h;rw[z7w];simp
 | q::r,k+1,p,h=>by
   have ih:=y39 r k p (by simpa using h);rw[z7w,show (k+1) * 2=k * 2+2 by omega];simpa using ih
theorem RdA.at_ {B:Nat} {w:World} {ad:Addr} {ps:List Pt} (h:RdA B w ad ps) {k:Nat} {p:Pt} (hk:ps[k]?=some p):
  w.cell? (ad.add (k * 2))=some (.string ⟨p.1.toArray⟩)∧w.cell? ⟨(ad.add (k * 2)).block,(ad.add (k * 2)).off+1,none⟩=some (.string ⟨p.2.toArray⟩):=by
 obtain⟨a,b⟩:=y39 ps k p hk;refine⟨h.2 _ _ a,?_⟩
 have e:(⟨(ad.add (k * 2)).block,(ad.add (k * 2)).off+1,none⟩:Addr)=ad.add (k * 2+1):=by
  unfold Addr.add;by_cases hk:k * 2=0
  ·simp[hk]
  ·simp[hk,Nat.add_assoc]
 rw[e];exact h.2 _ _ b
theorem z27 {w:World} {B:Nat} {v:Value} {ps:List Pt} (h:w.ownsRow B 81 2 v ps.length (cellsP ps)):∃ A c,v= .slice A ps.length c∧Rd w.heap.size w A ps.length ps:=by
 rcases h.2 with ⟨rfl,h0⟩ | ⟨g,cap,cur,rfl,hb,hg,_⟩
 ·exact⟨none,0,by rw[h0],rfl,fun hn=>by omega⟩
 ·refine⟨_,_,rfl,rfl,fun hn=>⟨_,rfl,(Array.getElem?_eq_some_iff.1 hg).1,h.cells (g:=g) rfl⟩⟩
theorem y7d (s:BA) (l:Bs) (v:Bool) (h:s.data.toList=l) (hs:s.size≤4611686018427387904) (hv:isName l=v) (w:World):
  Cz 99 #[s] w fun e w'=>e= .returned (.bool v)∧w=w':=by
 rw[←hv,←h];exact z5l s hs w
theorem y4f (b:Bool) (p:Pt) (r:List Pt):may b (p::r)=(okP b p && may (decide (p.1=[])) r):=rfl
theorem x3r {ps:List Pt} {k:Nat} {p:Pt} (h:ps[k]?=some p):ps.drop k=p::ps.drop (k+1):=by
 obtain⟨hk,e⟩:=List.getElem?_eq_some_iff.1 h;rw[List.drop_eq_getElem_cons hk,e]
theorem z7q {T:BA} {l:Bs} (h:T=⟨l.toArray⟩) (e:l=[]):T.toList=[]∧T.toList.isEmpty=true:=by
 have:T.toList=[]:=by rw[toList_data,h,e]
 exact⟨this,by rw[this];rfl⟩
theorem z4r {T:BA} {l:Bs} (h:T=⟨l.toArray⟩) (e:¬ l=[]):¬ T.toList=[]∧T.toList.isEmpty=false:=by
 have:¬ T.toList=[]:=by rw[toList_data,h];exact e
 exact⟨this,by simpa using this⟩
theorem y0b (A:OA) (n c:Nat) (ps:List Pt) (w:World) (h:Rd w.heap.size w A n ps) (hmax:n≤1000000) (hl:∀ p∈ps,p.1.length≤1000000):
  Cz 80 #[.slice A n c] w fun e w'=>e= .returned (.bool (may false ps))∧Below w.heap.size w w':=by
 obtain⟨v,hv⟩:∃ v,v=may false ps:=⟨_,rfl⟩;rw[←hv];have HV:=zz hv;have HN:=zz h.1;have HR:=zz h;have HL:=zz hl;clear hv h hl;go_enter Tryz.func80,Tryz.ntmps80;go_wp2
 go_loopw [3,9] (fun b i wr=>∃ (k:Nat) (x:Bool),k≤n∧i= .int .i64 k∧b= .bool x∧may x (ps.drop k)=v∧Below w.heap.size w wr) (fun _ i _=>n - (intOf i).toNat)
 case atStart=>exact⟨0,false,by omega,rfl,rfl,HV.out.symm,Below.refl _ _⟩
 case round=>
  obtain⟨k,x,hk,rfl,rfl,hm,hb⟩:=hrel;have HM:=zz hm;clear hm;by_cases a:k<n
  ·obtain⟨ad,rfl,hr⟩:=HR.out.2 (by omega)
   obtain⟨p,hp⟩:∃ p,ps[k]?=some p:=⟨_,List.getElem?_eq_getElem (by have:=HN.out;omega)⟩;obtain⟨c0,c1⟩:=(hr.keep hb).at_ hp
   obtain⟨N,hN⟩:∃ N:BA,N=⟨p.1.toArray⟩:=⟨_,rfl⟩;obtain⟨T,hT⟩:∃ T:BA,T=⟨p.2.toArray⟩:=⟨_,rfl⟩;rw[←hN] at c0;rw[←hT] at c1;have HP:=zz hp;have hN1:N.data.toList=p.1:=by rw[hN]
   have hN2:N.size≤4611686018427387904:=by
    have:=HL.out p (List.mem_of_getElem? hp);have e:=z0d N;rw[hN1] at e;omega
   have hc:(okP x p && may (decide (p.1=[])) (ps.drop (k+1)))=v:=by have:=HM.out;rw[x3r hp,y4f] at this;exact this
   clear hr hp;by_cases e1:p.1=[]
   ·obtain⟨n1,n2⟩:=z7q hN e1
    by_cases e2:p.2=[]
    ·obtain⟨t1,t2⟩:=z7q hT e2
     have HX:Hid (v=false):=by apply Lib.hid;rw[←hc];simp[okP,e1,e2]
     clear e1 e2 hc hN hT hN1;go_wp2;go_ret;exact⟨z0c HX.out.symm,hb.alloc hb.size _⟩
    ·obtain⟨t1,t2⟩:=z4r hT e2
     cases x with
     | true=>
       have HX:Hid (v=false):=by apply Lib.hid;rw[←hc];simp[okP,e1]
       clear e1 e2 hc hN hT hN1;go_wp2;go_ret;exact⟨z0c HX.out.symm,hb.alloc hb.size _⟩
     | false=>
       have HX:Hid (may true (ps.drop (k+1))=v):=by apply Lib.hid;rw[←hc];simp[okP,e1,e2]
       clear e1 e2 hc hN hT hN1;go_wp2
       go_roundw
       case rel=>exact⟨k+1,true,by omega,by go_num,rfl,HX.out,hb.alloc hb.size _⟩
       case measure=>simp[intOf];omega
   ·obtain⟨n1,n2⟩:=z4r hN e1
    by_cases e2:p.2=[]
    ·obtain⟨t1,t2⟩:=z7q hT e2
     by_cases e3:isName p.1=true
     ·have K:=zz fun w=>y7d N p.1 true hN1 hN2 e3 w
      have HX:Hid (may false (ps.drop (k+1))=v):=by apply Lib.hid;rw[←hc];simp[okP,e1,e2,e3]
      clear e1 e2 hc hN hT hN1 e3;go_wp2_with (go_at_call 99;((with_reducible refine(K.out _).mono ?_));rintro e w' ⟨rfl,rfl⟩)
      go_roundw
      case rel=>exact⟨k+1,false,by omega,by go_num,rfl,HX.out,hb.alloc hb.size _⟩
      case measure=>simp[intOf];omega
     ·have K:=zz fun w=>y7d N p.1 false hN1 hN2 (Bool.eq_false_iff.2 e3) w
      have HX:Hid (v=false):=by apply Lib.hid;rw[←hc];simp[okP,e1,e3]
      clear e1 e2 hc hN hT hN1 e3;go_wp2_with (go_at_call 99;((with_reducible refine(K.out _).mono ?_));rintro e w' ⟨rfl,rfl⟩);go_ret;exact⟨z0c HX.out.symm,hb.alloc hb.size _⟩
    ·obtain⟨t1,t2⟩:=z4r hT e2
     have HX:Hid (v=false):=by apply Lib.hid;rw[←hc];simp[okP,e1,e2]
     clear e1 e2 hc hN hT hN1;go_wp2;go_ret;exact⟨z0c HX.out.symm,hb.alloc hb.size _⟩
  ·have HX:Hid (v=true):=by
    apply Lib.hid;rw[←HM.out,List.drop_eq_nil_of_le (by have:=HN.out;omega)];rfl
   go_wp2;go_ret;exact⟨z0c HX.out.symm,hb⟩
theorem x3l:Tryz.prog.underlying 81=some (.struct (Tryz.prog.fieldsOf 81)):=by kernel_rfl
theorem x43:Tryz.prog.stoodInHeld 81=false:=by kernel_rfl
theorem x0x:(Tryz.prog.fieldsOf 81).toList.map (fun f=>(f.name,f.type,f.offset))=[("Name",9,0),("Text",9,1)]:=by kernel_rfl
end Go.Proofs.YtngfihoempcplaaGreatDoor
