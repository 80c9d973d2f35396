import Derived.Test.YtdobinjbejagcaaGreatDoorPe6
import Derived.Test.YtdobinjbejagcaaGreatDoorTkQ
import Derived.Test.YtdobinjbejagcaaGreatDoorPd5
import Derived.Deep.CutBlock
import Derived.Test.YtdobinjbejagcaaGreatDoorPd12
import Derived.Test.YtdobinjbejagcaaGreatDoorPlainC
import Derived.Test.YtdobinjbejagcaaGreatDoorTkS
import Derived.Deep.RegionHeld3
namespace Go.Proofs.YtdobinjbejagcaaGreatDoor
open Go Go.RowKit
set_option maxRecDepth 100000
set_option maxHeartbeats 8000000
def AtE (w:World) (a:Addr) (e:EdP):Prop:=
 w.cell? a=some (.int .i64 e.kind)∧w.cell? ⟨a.block,a.off+1,none⟩=some (.string ⟨e.text.toArray⟩)∧w.cell? ⟨a.block,a.off+2,none⟩=some (.int .i64 e.lo)∧w.cell? ⟨a.block,a.off+3,none⟩=some (.int .i64 e.hi)∧w.cell? ⟨a.block,a.off+4,none⟩=some (.int .i64 e.to)
def AtX (w:World) (a:Addr) (x:PlP) (A:Option Addr) (c:Nat):Prop:=
 w.cell? a=some (.string ⟨x.name.toArray⟩)∧w.cell? ⟨a.block,a.off+1,none⟩=some (.bool x.echo)∧w.cell? ⟨a.block,a.off+2,none⟩=some (.slice A x.edges.length c)
def RdE5 (B:Nat) (w:World) (A:Option Addr) (n:Nat) (es:List EdP):Prop:=n=es.length∧(0<n→∃ ad,A=some ad∧ad.block<B∧∀ i e,es[i]?=some e→AtE w (ad.add (i * 5)) e)
def RdX (B:Nat) (w:World) (A:Option Addr) (n:Nat) (xs:List PlP):Prop:=n=xs.length∧(0<n→∃ ad,A=some ad∧ad.block<B∧∀ i x,xs[i]?=some x→
 ∃ A' c',AtX w (ad.add (i * 3)) x A' c'∧RdE5 B w A' x.edges.length x.edges)
theorem AtE.keep {B:Nat} {w w':World} {a:Addr} {e:EdP} (h:AtE w a e) (hB:a.block<B) (hb:Below B w w'):AtE w' a e:=
 ⟨(hb.cell hB).trans h.1,(hb.cell (p:=⟨a.block,a.off+1,none⟩) hB).trans h.2.1,(hb.cell (p:=⟨a.block,a.off+2,none⟩) hB).trans h.2.2.1,(hb.cell (p:=⟨a.block,a.off+3,none⟩) hB).trans h.2.2.2.1,(hb.cell (p:=⟨a.block,a.off+4,none⟩) hB).trans h.2.2.2.2⟩
theorem AtX.keep {B:Nat} {w w':World} {a:Addr} {x:PlP} {A:Option Addr} {c:Nat} (h:AtX w a x A c) (hB:a.block<B) (hb:Below B w w'):AtX w' a x A c:=
 ⟨(hb.cell hB).trans h.1,(hb.cell (p:=⟨a.block,a.off+1,none⟩) hB).trans h.2.1,(hb.cell (p:=⟨a.block,a.off+2,none⟩) hB).trans h.2.2⟩
theorem RdE5.keep {B:Nat} {w w':World} {A:Option Addr} {n:Nat} {es:List EdP} (h:RdE5 B w A n es) (hb:Below B w w'):RdE5 B w' A n es:=by
 refine⟨h.1,fun hn=>?_⟩;obtain⟨ad,e,hlt,hc⟩:=h.2 hn;exact⟨ad,e,hlt,fun i x hx=>(hc i x hx).keep (by rw[block_of_add];exact hlt) hb⟩
theorem RdE5.up {B B':Nat} {w:World} {A:Option Addr} {n:Nat} {es:List EdP} (h:RdE5 B w A n es) (hB:B≤B'):RdE5 B' w A n es:=by
 refine⟨h.1,fun hn=>?_⟩;obtain⟨ad,e,hlt,hc⟩:=h.2 hn;exact⟨ad,e,by omega,hc⟩
theorem RdX.keep {B:Nat} {w w':World} {A:Option Addr} {n:Nat} {xs:List PlP} (h:RdX B w A n xs) (hb:Below B w w'):RdX B w' A n xs:=by
 refine⟨h.1,fun hn=>?_⟩;obtain⟨ad,e,hlt,hc⟩:=h.2 hn;refine⟨ad,e,hlt,fun i x hx=>?_⟩;obtain⟨A',c',h3,hr⟩:=hc i x hx;exact⟨A',c',h3.keep (by rw[block_of_add];exact hlt) hb,hr.keep hb⟩
theorem RdX.up {B B':Nat} {w:World} {A:Option Addr} {n:Nat} {xs:List PlP} (h:RdX B w A n xs) (hB:B≤B'):RdX B' w A n xs:=by
 refine⟨h.1,fun hn=>?_⟩;obtain⟨ad,e,hlt,hc⟩:=h.2 hn;refine⟨ad,e,by omega,fun i x hx=>?_⟩;obtain⟨A',c',h3,hr⟩:=hc i x hx;exact⟨A',c',h3,hr.up hB⟩
theorem RdX.next {w w':World} {A:Option Addr} {n:Nat} {xs:List PlP} (h:RdX w.heap.size w A n xs) (hb:Below w.heap.size w w'):RdX w'.heap.size w' A n xs:=(h.keep hb).up hb.size
theorem RdX.at_ {B:Nat} {w:World} {A:Option Addr} {n:Nat} {xs:List PlP} {k:Nat} {x:PlP} (h:RdX B w A n xs) (hk:xs[k]?=some x):
  ∃ ad A' c',A=some ad∧ad.block<B∧AtX w (ad.add (k * 3)) x A' c'∧RdE5 B w A' x.edges.length x.edges:=by
 obtain⟨ad,e,hlt,hc⟩:=h.2 (by have:=(List.getElem?_eq_some_iff.1 hk).1;have:=h.1;omega);obtain⟨A',c',h5,hr⟩:=hc k x hk;exact⟨ad,A',c',e,hlt,h5,hr⟩
theorem RdE5.at_ {B:Nat} {w:World} {A:Option Addr} {n:Nat} {es:List EdP} {k:Nat} {e:EdP} (h:RdE5 B w A n es) (hk:es[k]?=some e):
  ∃ ad,A=some ad∧ad.block<B∧AtE w (ad.add (k * 5)) e:=by
 obtain⟨ad,e',hlt,hc⟩:=h.2 (by have:=(List.getElem?_eq_some_iff.1 hk).1;have:=h.1;omega);exact⟨ad,e',hlt,hc k e hk⟩
theorem eqAll_iff {α:Type} {f:α→α→Bool} (h:∀ a b,f a b=true ↔ a=b):∀ l m:List α,eqAll f l m=true ↔ l=m
 | [],[]=>by simp[eqAll]
 | [],b::m=>by simp[eqAll]
 | a::l,[]=>by simp[eqAll]
 | a::l,b::m=>by
   unfold eqAll;rw[Bool.and_eq_true,h,eqAll_iff h l m];simp
theorem eqEd_iff (a b:EdP):eqEd a b=true ↔ a=b:=by
 obtain⟨a1,a2,a3,a4,a5⟩:=a;obtain⟨b1,b2,b3,b4,b5⟩:=b;simp[eqEd]
theorem eqPl_iff (a b:PlP):eqPl a b=true ↔ a=b:=by
 obtain⟨a1,a2,a3⟩:=a;obtain⟨b1,b2,b3⟩:=b;simp[eqPl,eqAll_iff eqEd_iff]
theorem eqPe_iff (a b:PeP):eqPe a b=true ↔ a=b:=by
 obtain⟨a1,a2⟩:=a;obtain⟨b1,b2⟩:=b;simp[eqPe,eqAll_iff eqPl_iff]
theorem underEd:Tryz.prog.underlying 39=some (.struct (Tryz.prog.fieldsOf 39)):=by kernel_rfl
theorem heldEd:Tryz.prog.stoodInHeld 39=false:=by kernel_rfl
theorem fieldsEd:(Tryz.prog.fieldsOf 39).toList.map (fun f=>(f.name,f.type,f.offset))=[("Kind",3,0),("Text",9,1),("Lo",3,2),("Hi",3,3),("To",3,4)]:=by kernel_rfl
theorem neqEd_any (k1 k2 l1 l2 h1 h2 t1 t2:Int) (x y:ByteArray) (b:Bool) (hb:b= !(k1==k2 && (x.toList==y.toList && (l1==l2 && (h1==h2 && t1==t2))))) (w:World):
  (binOp .neq 39 (.agg #[.int .i64 k1,.string x,.int .i64 l1,.int .i64 h1,.int .i64 t1]) (.agg #[.int .i64 k2,.string y,.int .i64 l2,.int .i64 h2,.int .i64 t2])).run Tryz.prog w= .ok (.bool b) w:=by
 have hf:=fieldsEd;rw[run_neq_struct,run_equalIn_struct w 9999 39 _ _ underEd heldEd,hb];generalize (Tryz.prog.fieldsOf 39).toList=L at hf ⊢
 rcases L with _ | ⟨f1,_ | ⟨f2,_ | ⟨f3,_ | ⟨f4,_ | ⟨f5,_ | ⟨f6,L⟩⟩⟩⟩⟩⟩
 ·simp at hf
 ·simp at hf
 ·simp at hf
 ·simp at hf
 ·simp at hf
 ·simp only[List.map_cons,List.map_nil,List.cons.injEq,Prod.mk.injEq,and_true] at hf
  obtain⟨⟨a1,a2,a3⟩,⟨b1,b2,b3⟩,⟨c1,c2,c3⟩,⟨d1,d2,d3⟩,⟨e1,e2,e3⟩⟩:=hf
  cases g1:k1==k2 with
  | false=>simp[Op.eqFields,a1,a2,a3,b1,b2,b3,c1,c2,c3,d1,d2,d3,e1,e2,e3,go_sem,g1]
  | true=>
    cases g2:x.toList==y.toList with
    | false=>simp[Op.eqFields,a1,a2,a3,b1,b2,b3,c1,c2,c3,d1,d2,d3,e1,e2,e3,go_sem,g1,g2]
    | true=>
      cases g3:l1==l2 with
      | false=>simp[Op.eqFields,a1,a2,a3,b1,b2,b3,c1,c2,c3,d1,d2,d3,e1,e2,e3,go_sem,g1,g2,g3]
      | true=>
        cases g4:h1==h2 with
        | false=>simp[Op.eqFields,a1,a2,a3,b1,b2,b3,c1,c2,c3,d1,d2,d3,e1,e2,e3,go_sem,g1,g2,g3,g4]
        | true=>
          cases g5:t1==t2 with
          | false=>simp[Op.eqFields,a1,a2,a3,b1,b2,b3,c1,c2,c3,d1,d2,d3,e1,e2,e3,go_sem,g1,g2,g3,g4,g5]
          | true=>simp[Op.eqFields,a1,a2,a3,b1,b2,b3,c1,c2,c3,d1,d2,d3,e1,e2,e3,go_sem,g1,g2,g3,g4,g5]
 ·simp at hf
theorem neqEd (p q:EdP) (w:World):(binOp .neq 39 (.agg #[.int .i64 p.kind,.string ⟨p.text.toArray⟩,.int .i64 p.lo,.int .i64 p.hi,.int .i64 p.to]) (.agg #[.int .i64 q.kind,.string ⟨q.text.toArray⟩,.int .i64 q.lo,.int .i64 q.hi,.int .i64 q.to])).run Tryz.prog w= .ok (.bool (!eqEd p q)) w:=by
 refine neqEd_any _ _ _ _ _ _ _ _ _ _ _ ?_ w;rw[toList_data,toList_data];unfold eqEd
 congr 1
 rw[Bool.eq_iff_iff];simp
theorem psame_any (p q:PeP) (A A':Option Addr) (n n' c c':Nat) (w:World) (h:RdX w.heap.size w A n p.places) (h':RdX w.heap.size w A' n' q.places) (hm:n≤1000000) (hm':n'≤1000000) (he:∀ x∈p.places,x.edges.length≤1000000) (he':∀ x∈q.places,x.edges.length≤1000000):
  Calls Tryz.prog 13 #[.agg #[.int .i64 p.cap,.slice A n c],.agg #[.int .i64 q.cap,.slice A' n' c']] w fun e w'=>e= .returned (.bool (eqPe p q))∧Below w.heap.size w w':=by
 obtain⟨v,hv⟩:∃ v,v=eqPe p q:=⟨_,rfl⟩;rw[←hv];by_cases hc:p.cap=q.cap
 ·by_cases hn:n=n'
  ·subst hn
   obtain⟨W0,hW0⟩:∃ W0,W0=(w.alloc (.cells #[.int .i64 p.cap,.slice A n c] 24)).alloc (.cells #[.int .i64 q.cap,.slice A' n c'] 24):=⟨_,rfl⟩;have hB0:Below w.heap.size w W0:=by rw[hW0];exact(one_boxP w _).trans ((one_boxP _ _).mono (one_boxP w _).size)
   have HB0:=Lib.hid hB0;have HR:=Lib.hid (h.next hB0);have HR':=Lib.hid (h'.next hB0);have HE:=Lib.hid he;have HE':=Lib.hid he';have HV:=Lib.hid hv;have HN:=Lib.hid h.1;have HN':=Lib.hid h'.1;have HC:=Lib.hid hc;have b1:(p.cap != q.cap)=false:=by rw[hc];simp
   have HX:Hid (∀ W',Below W0.heap.size W0 W'→W'.cell? ⟨w.heap.size,1,none⟩=some (.slice A n c)∧W'.cell? ⟨w.heap.size+1,1,none⟩=some (.slice A' n c')):=Lib.hid fun W' hb=>by
    have hs:W0.heap.size=w.heap.size+1+1:=by rw[hW0];simp
    rw[hb.cell (p:=⟨w.heap.size,1,none⟩) (by show w.heap.size<_;omega),hb.cell (p:=⟨w.heap.size+1,1,none⟩) (by show w.heap.size+1<_;omega),hW0]
    constructor <;> simp[go_sem]
   have hs0:W0.heap.size=w.heap.size+1+1:=by rw[hW0];simp
   clear h h' he he' hv hc hB0;go_enter Tryz.func13,Tryz.ntmps13;go_wp2;rw[←hW0];clear hW0
   go_loopw [5] (fun i wr=>∃ j:Nat,j≤n∧i= .int .i64 j∧p.places.take j=q.places.take j∧Below W0.heap.size W0 wr) (fun i _=>n - (intOf i).toNat)
   case atStart=>exact⟨0,by omega,rfl,rfl,Below.refl _ _⟩
   case round=>
    obtain⟨j,hj,rfl,ht,hb⟩:=hrel;obtain⟨V,hV⟩:∃ V,V=wr:=⟨_,rfl⟩;subst hV;have HB:=Lib.hid hb;have HT:=Lib.hid ht;obtain⟨y2,y3⟩:=HX.out V hb;clear ht;by_cases a:j<n
    ·obtain⟨x,hx⟩:∃ x,p.places[j]?=some x:=⟨_,List.getElem?_eq_getElem (by have:=HN.out;omega)⟩
     obtain⟨y,hy⟩:∃ y,q.places[j]?=some y:=⟨_,List.getElem?_eq_getElem (by have:=HN'.out;omega)⟩;obtain⟨ad,Ax,cx,rfl,hl1,⟨s0,s1,s2⟩,hrx⟩:=(HR.out.next hb).at_ hx
     obtain⟨ad',Ay,cy,rfl,hl2,⟨t0,t1,t2⟩,hry⟩:=(HR'.out.next hb).at_ hy
     have g1:(ad.add (j * 3)).block<V.heap.size:=by rw[block_of_add];exact hl1
     have g2:(ad'.add (j * 3)).block<V.heap.size:=by rw[block_of_add];exact hl2
     have hex:=HE.out x (List.mem_of_getElem? hx);have hey:=HE'.out y (List.mem_of_getElem? hy);have hz:=hb.size;have g3:w.heap.size<V.heap.size:=by omega
     have g4:w.heap.size+1<V.heap.size:=by omega
     obtain⟨TX,hTX⟩:∃ T:ByteArray,T=⟨x.name.toArray⟩:=⟨_,rfl⟩;obtain⟨TY,hTY⟩:∃ T:ByteArray,T=⟨y.name.toArray⟩:=⟨_,rfl⟩;obtain⟨ex,hEX⟩:∃ e,e=x.echo:=⟨_,rfl⟩;obtain⟨ey,hEY⟩:∃ e,e=y.echo:=⟨_,rfl⟩;obtain⟨mx,hMX⟩:∃ e,e=x.edges.length:=⟨_,rfl⟩;obtain⟨my,hMY⟩:∃ e,e=y.edges.length:=⟨_,rfl⟩
     have HD:Hid (¬ (TX=TY∧ex=ey∧x.edges=y.edges)→v=false):=Lib.hid fun hno=>by
      rw[HV.out]
      cases hq:eqPe p q with
      | false=>rfl
      | true=>
        have:=(eqPe_iff p q).1 hq;subst this;rw[hx] at hy;injection hy with hy
        subst hy;exact absurd ⟨by rw[hTX,hTY],by rw[hEX,hEY],rfl⟩ hno
     have HS:Hid (TX=TY→ex=ey→x.edges=y.edges→p.places.take (j+1)=q.places.take (j+1)):=Lib.hid fun e1 e2 e3=>by
      have e4:x.name=y.name:=by rw[hTX,hTY] at e1;have:=congrArg (fun b:ByteArray=>b.data.toList) e1;exact this
      have e5:x=y:=by cases x;cases y;simp only at e4 hEX hEY e3;rw[e4,←hEX,←hEY,e2,e3]
      obtain⟨i1,i2⟩:=List.getElem?_eq_some_iff.1 hx;obtain⟨j1,j2⟩:=List.getElem?_eq_some_iff.1 hy;rw[List.take_succ_eq_append_getElem i1,List.take_succ_eq_append_getElem j1,HT.out,i2,j2,e5]
     rw[←hTX] at s0;rw[←hTY] at t0;rw[←hEX] at s1;rw[←hEY] at t1;rw[←hMX] at s2 hrx hex;rw[←hMY] at t2 hry hey;have HRX:=Lib.hid hrx;have HRY:=Lib.hid hry;clear hb hTX hTY hEX hEY hx hy hrx hry;by_cases e1:TX=TY
     ·subst e1
      have b2:(TX.toList==TX.toList)=true:=by simp
      by_cases e2:ex=ey
      ·subst e2
       have HS2:Hid (x.edges=y.edges→p.places.take (j+1)=q.places.take (j+1)):=Lib.hid fun e3=>HS.out rfl rfl e3
       have b3:(ex != ex)=false:=by simp
       by_cases e3:mx=my
       ·subst e3
        obtain⟨V1,hV1⟩:∃ V1,V1=(V.alloc (.cells #[.string TX,.bool ex,.slice Ax mx cx] 42)).alloc (.cells #[.string TX,.bool ex,.slice Ay mx cy] 42):=⟨_,rfl⟩;have hB1:Below V.heap.size V V1:=by rw[hV1];exact(one_boxP V _).trans ((one_boxP _ _).mono (one_boxP V _).size)
        have HB1:=Lib.hid hB1
        have HX1:Hid (∀ W',Below V1.heap.size V1 W'→W'.cell? ⟨V.heap.size,2,none⟩=some (.slice Ax mx cx)∧W'.cell? ⟨V.heap.size+1,2,none⟩=some (.slice Ay mx cy)):=Lib.hid fun W' hb=>by
         have hs:V1.heap.size=V.heap.size+1+1:=by rw[hV1];simp
         rw[hb.cell (p:=⟨V.heap.size,2,none⟩) (by show V.heap.size<_;omega),hb.cell (p:=⟨V.heap.size+1,2,none⟩) (by show V.heap.size+1<_;omega),hV1]
         constructor <;> simp[go_sem]
        have HMX:=Lib.hid hMX;have HMY:=Lib.hid hMY;clear hB1 hMX hMY;go_wp2;rw[←hV1];clear hV1
        go_loopw [8] (fun i wr=>∃ m:Nat,m≤mx∧i= .int .i64 m∧x.edges.take m=y.edges.take m∧Below V1.heap.size V1 wr) (fun i _=>mx - (intOf i).toNat)
        case atStart=>exact⟨0,by omega,rfl,rfl,Below.refl _ _⟩
        case round=>
         obtain⟨m,hm1,rfl,ht,hb⟩:=hrel;obtain⟨U,hU⟩:∃ U,U=wr:=⟨_,rfl⟩;subst hU;have HU:=Lib.hid hb;have HTE:=Lib.hid ht;obtain⟨z2,z3⟩:=HX1.out U hb;have HL:Hid (Below w.heap.size w U):=Lib.hid ((HB0.out.trans (HB.out.mono HB0.out.size)).trans ((HB1.out.trans (hb.mono HB1.out.size)).mono (by omega)));clear ht;by_cases a2:m<mx
         ·obtain⟨e,he⟩:∃ e,x.edges[m]?=some e:=⟨_,List.getElem?_eq_getElem (by have:=HMX.out;omega)⟩
          obtain⟨f,hf⟩:∃ f,y.edges[m]?=some f:=⟨_,List.getElem?_eq_getElem (by have:=HMY.out;omega)⟩;have hBU:=HB1.out.trans (hb.mono HB1.out.size);obtain⟨ad2,rfl,hl3,p0,p1,p2,p3,p4⟩:=((HRX.out.keep hBU).up hBU.size).at_ he
          obtain⟨ad3,rfl,hl4,o0,o1,o2,o3,o4⟩:=((HRY.out.keep hBU).up hBU.size).at_ hf
          have i3:(ad2.add (m * 5)).block<U.heap.size:=by rw[block_of_add];exact hl3
          have i4:(ad3.add (m * 5)).block<U.heap.size:=by rw[block_of_add];exact hl4
          have hcmp:=fun W:World=>neqEd e f W
          cases hq:eqEd e f with
          | true=>
            have HY:Hid (x.edges.take (m+1)=y.edges.take (m+1)):=Lib.hid (by
             obtain⟨i1,i2⟩:=List.getElem?_eq_some_iff.1 he;obtain⟨j1,j2⟩:=List.getElem?_eq_some_iff.1 hf;rw[List.take_succ_eq_append_getElem i1,List.take_succ_eq_append_getElem j1,HTE.out,i2,j2,(eqEd_iff e f).1 hq])
            rw[hq] at hcmp;simp only[Bool.not_true] at hcmp;clear hb hBU he hf hq;go_wp2;go_quiet (fail);go_wp2
            go_roundw
            case rel=>exact⟨m+1,by omega,by go_num,HY.out,below_drewN HU.out _⟩
            case measure=>simp[intOf];omega
          | false=>
            have HF:Hid (v=false):=Lib.hid (HD.out fun q=>by
             rw[q.2.2] at he;rw[he] at hf;injection hf with hf
             subst hf;rw[eqEd_self] at hq
             cases hq)
            rw[hq] at hcmp;simp only[Bool.not_false] at hcmp;clear hb hBU he hf hq;go_wp2;go_quiet (fail);go_wp2;go_ret;exact⟨ret_bool HF.out.symm,below_drewN HL.out _⟩
         ·have HY:Hid (p.places.take (j+1)=q.places.take (j+1)):=Lib.hid (HS2.out (by
           have h1:=HTE.out;rwa [List.take_of_length_le (by have:=HMX.out;omega),List.take_of_length_le (by have:=HMY.out;omega)] at h1))
          have HBU:Hid (Below W0.heap.size W0 U):=Lib.hid (HB.out.trans ((HB1.out.trans (hb.mono HB1.out.size)).mono HB.out.size));clear hb;go_wp2
          go_roundw
          case rel=>exact⟨j+1,by omega,by go_num,HY.out,HBU.out⟩
          case measure=>simp[intOf];omega
       ·have b4:((mx:Int) != (my:Int))=true:=by simp;omega
        have b5:(mx != my)=true:=by simpa using e3
        have HF:Hid (v=false):=Lib.hid (HD.out fun q=>e3 (by rw[hMX,hMY,q.2.2]));clear e3 hMX hMY;go_wp2;go_ret;exact⟨ret_bool HF.out.symm,(HB0.out.trans (HB.out.mono HB0.out.size)).trans (((one_boxP V _).trans ((one_boxP _ _).mono (one_boxP V _).size)).mono (by omega))⟩
      ·have b3:(ex != ey)=true:=by simpa using e2
       have HF:Hid (v=false):=Lib.hid (HD.out fun q=>e2 q.2.1);clear hMX hMY;go_wp2;go_ret;exact⟨ret_bool HF.out.symm,(HB0.out.trans (HB.out.mono HB0.out.size)).trans (((one_boxP V _).trans ((one_boxP _ _).mono (one_boxP V _).size)).mono (by omega))⟩
     ·have b2:(TX.toList==TY.toList)=false:=toListP_ne e1
      have HF:Hid (v=false):=Lib.hid (HD.out fun q=>e1 q.1);clear hMX hMY;go_wp2;go_ret;exact⟨ret_bool HF.out.symm,(HB0.out.trans (HB.out.mono HB0.out.size)).trans (((one_boxP V _).trans ((one_boxP _ _).mono (one_boxP V _).size)).mono (by omega))⟩
    ·have HF:Hid (v=true):=Lib.hid (by
      have h1:=HT.out;rw[List.take_of_length_le (by have:=HN.out;omega),List.take_of_length_le (by have:=HN'.out;omega)] at h1;rw[HV.out,eqPe_iff]
      cases p;cases q
      simp only at h1 ⊢;have:=HC.out;simp only at this;rw[h1,this])
     go_wp2;go_ret;exact⟨ret_bool HF.out.symm,HB0.out.trans (HB.out.mono HB0.out.size)⟩
  ·have b1:((n:Int) != (n':Int))=true:=by simp;omega
   have b2:(n != n')=true:=by simpa using hn
   have HF:Hid (v=false):=Lib.hid (by
    rw[hv]
    cases hq:eqPe p q with
    | false=>rfl
    | true=>exact absurd (by rw[h.1,h'.1,(eqPe_iff p q).1 hq]) hn)
   have b3:(p.cap != q.cap)=false:=by rw[hc];simp
   clear h h' he he' hv hn;go_enter Tryz.func13,Tryz.ntmps13;go_wp2;go_ret;exact⟨ret_bool HF.out.symm,(one_boxP w _).trans ((one_boxP _ _).mono (one_boxP w _).size)⟩
 ·have HF:Hid (v=false):=Lib.hid (by
   rw[hv]
   cases hq:eqPe p q with
   | false=>rfl
   | true=>exact absurd (by rw[(eqPe_iff p q).1 hq]) hc)
  have b3:(p.cap != q.cap)=true:=by simpa using hc
  clear h h' he he' hv hc;go_enter Tryz.func13,Tryz.ntmps13;go_wp2;go_ret;exact⟨ret_bool HF.out.symm,(one_boxP w _).trans ((one_boxP _ _).mono (one_boxP w _).size)⟩
theorem pmayed_any (p:PeP) (e:EdP) (A:Option Addr) (n c:Nat) (w:World) (hp:n=p.places.length) (ht:e.text.length≤1000000):
  Calls Tryz.prog 27 #[.agg #[.int .i64 e.kind,.string ⟨e.text.toArray⟩,.int .i64 e.lo,.int .i64 e.hi,.int .i64 e.to],.agg #[.int .i64 p.cap,.slice A n c]] w fun r w'=>r= .returned (.bool (mayEd p e))∧Below w.heap.size w w':=by
 obtain⟨T,hT⟩:∃ T:ByteArray,T=⟨e.text.toArray⟩:=⟨_,rfl⟩;have K7:=gloC e.text ht;have hsz:T.size=e.text.length:=by rw[hT];simp[ByteArray.size]
 have hem:T.toList.isEmpty=decide (e.text=[]):=by
  rw[hT,toList_data]
  cases e.text with
  | nil=>rfl
  | cons a r=>rfl
 rw[←hT] at K7 ⊢;have HT:=Lib.hid hT;clear hT;obtain⟨z,hz⟩:∃ z,z=(parseGl e.text).2.2:=⟨_,rfl⟩;have hgl:globOk e.text=decide (z=0):=by rw[hz];rfl
 rw[←hz] at K7;obtain⟨v,hv⟩:∃ v,v=mayEd p e:=⟨_,rfl⟩;rw[←hv];obtain⟨tb,htb⟩:∃ tb,tb=mayTimes e:=⟨_,rfl⟩;obtain⟨ub,hub⟩:∃ ub,ub=mayTo n e:=⟨_,rfl⟩
 have hv2:v=if e.kind=1 then tb && (ub && decide (1≤T.size∧(T.size:Int)≤p.cap)) else if e.kind=2 then decide (e.lo=0) && (decide (e.hi=0) && (ub && decide (z=0))) else decide (e.kind=3) && (tb && (decide (e.to=0) && T.toList.isEmpty)):=by
  rw[hv,htb,hub,hsz,hem,←hgl,hp];rfl
 have htb2:tb=(decide (0≤e.lo∧e.lo≤9) && (decide (e.hi= -1) || decide (e.lo≤e.hi∧e.hi≤9))):=htb;have hub2:ub=decide (0≤e.to∧e.to<n):=hub;clear hz hgl hv htb hub hem;have hts:T.size≤1000000:=by omega
 clear hsz ht;generalize p.cap=cap at hv2 ⊢;generalize e.kind=kd at hv2 ⊢;generalize e.lo=lo at hv2 htb2 ⊢;generalize e.hi=hi at hv2 htb2 ⊢;generalize e.to=tt at hv2 hub2 ⊢;have HV:=Lib.hid hv2;have HTB:=Lib.hid htb2;have HUB:=Lib.hid hub2;clear hv2 htb2 hub2 hp;obtain⟨W,hW⟩:∃ W,W=(w.alloc (.cells #[.int .i64 kd,.string T,.int .i64 lo,.int .i64 hi,.int .i64 tt] 39)).alloc (.cells #[.int .i64 cap,.slice A n c] 24):=⟨_,rfl⟩;have HB:Hid (Below w.heap.size w W):=Lib.hid (by rw[hW];exact(one_boxP w _).trans ((one_boxP _ _).mono (one_boxP w _).size));have x0:W.cell? ⟨w.heap.size,0,none⟩=some (.int .i64 kd):=by rw[hW];simp[go_sem]
 have x1:W.cell? ⟨w.heap.size,1,none⟩=some (.string T):=by rw[hW];simp[go_sem]
 have x2:W.cell? ⟨w.heap.size,2,none⟩=some (.int .i64 lo):=by rw[hW];simp[go_sem]
 have x3:W.cell? ⟨w.heap.size,3,none⟩=some (.int .i64 hi):=by rw[hW];simp[go_sem]
 have x4:W.cell? ⟨w.heap.size,4,none⟩=some (.int .i64 tt):=by rw[hW];simp[go_sem]
 have y0:W.cell? ⟨w.heap.size+1,0,none⟩=some (.int .i64 cap):=by rw[hW];simp[go_sem]
 have y1:W.cell? ⟨w.heap.size+1,1,none⟩=some (.slice A n c):=by rw[hW];simp[go_sem]
 go_enter Tryz.func27,Tryz.ntmps27
 go_upto_region 1 with fail
 rw[←hW];clear hW
 go_cut [5] from 10 to 34 (fun t5 wx=>t5= .bool tb∧wx=W)
 case first=>
  by_cases c1:0≤lo
  ·have d1:decide (0≤lo)=true:=decide_eq_true c1
   by_cases c2:lo≤9
   ·have d2:decide (lo≤9)=true:=decide_eq_true c2
    by_cases c3:hi= -1
    ·have d3:(hi== -1)=true:=by simpa using c3
     have hb:tb=true:=by rw[HTB.out];simp[c1,c2,c3]
     subst hb;go_wp2
     go_meet
     exact⟨rfl,rfl⟩
    ·have d3:(hi== -1)=false:=by simpa using c3
     by_cases c4:lo≤hi
     ·have d4:decide (lo≤hi)=true:=decide_eq_true c4
      by_cases c5:hi≤9
      ·have d5:decide (hi≤9)=true:=decide_eq_true c5
       have hb:tb=true:=by rw[HTB.out];simp[c1,c2,c4,c5]
       subst hb;go_wp2
       go_meet
       exact⟨rfl,rfl⟩
      ·have d5:decide (hi≤9)=false:=decide_eq_false c5
       have hb:tb=false:=by rw[HTB.out];simp[c3,c5]
       subst hb;go_wp2
       go_meet
       exact⟨rfl,rfl⟩
     ·have d4:decide (lo≤hi)=false:=decide_eq_false c4
      have hb:tb=false:=by rw[HTB.out];simp[c3,c4]
      subst hb;go_wp2
      go_meet
      exact⟨rfl,rfl⟩
   ·have d2:decide (lo≤9)=false:=decide_eq_false c2
    have hb:tb=false:=by rw[HTB.out];simp[c2]
    subst hb;go_wp2
    go_meet
    exact⟨rfl,rfl⟩
  ·have d1:decide (0≤lo)=false:=decide_eq_false c1
   have hb:tb=false:=by rw[HTB.out];simp[c1]
   subst hb;go_wp2
   go_meet
   exact⟨rfl,rfl⟩
 case rest=>
  obtain⟨rfl,rfl⟩:=hcut;clear HTB
  go_upto_region 2 with fail
  go_cut [6] from 35 to 45 (fun t6 wx=>t6= .bool ub∧wx=wc)
  case first=>
   by_cases c1:0≤tt
   ·have d1:decide (0≤tt)=true:=decide_eq_true c1
    by_cases c2:tt<n
    ·have d2:decide (tt<(n:Int))=true:=decide_eq_true c2
     have hb:ub=true:=by rw[HUB.out];simp[c1,c2]
     subst hb;go_wp2
     go_meet
     exact⟨rfl,rfl⟩
    ·have d2:decide (tt<(n:Int))=false:=decide_eq_false c2
     have hb:ub=false:=by rw[HUB.out];simp[c2]
     subst hb;go_wp2
     go_meet
     exact⟨rfl,rfl⟩
   ·have d1:decide (0≤tt)=false:=decide_eq_false c1
    have hb:ub=false:=by rw[HUB.out];simp[c1]
    subst hb;go_wp2
    go_meet
    exact⟨rfl,rfl⟩
  case rest=>
   clear HUB;have g0:=World.block_lt_of_cell? _ _ x0;by_cases k1:kd=1
   ·subst k1
    cases tb with
    | false=>
      have HF:Hid (v=false):=Lib.hid (by rw[HV.out];simp[]);clear HV;go_wp2;go_ret;exact⟨ret_bool HF.out.symm,HB.out⟩
    | true=>
      cases ub with
      | false=>
        have HF:Hid (v=false):=Lib.hid (by rw[HV.out];simp[]);clear HV;go_wp2;go_ret;exact⟨ret_bool HF.out.symm,HB.out⟩
      | true=>
        by_cases l1:1≤T.size
        ·have d1:decide ((1:Int)≤T.size)=true:=decide_eq_true (by omega)
         by_cases l2:(T.size:Int)≤cap
         ·have d2:decide ((T.size:Int)≤cap)=true:=decide_eq_true l2
          have HF:Hid (v=true):=Lib.hid (by rw[HV.out];simp[l1,l2]);clear HV;go_wp2;go_ret;exact⟨ret_bool HF.out.symm,HB.out⟩
         ·have d2:decide ((T.size:Int)≤cap)=false:=decide_eq_false l2
          have HF:Hid (v=false):=Lib.hid (by rw[HV.out];simp[l2]);clear HV;go_wp2;go_ret;exact⟨ret_bool HF.out.symm,HB.out⟩
        ·have d1:decide ((1:Int)≤T.size)=false:=decide_eq_false (by omega)
         have HF:Hid (v=false):=Lib.hid (by rw[HV.out];simp[l1]);clear HV;go_wp2;go_ret;exact⟨ret_bool HF.out.symm,HB.out⟩
   ·have b1:(kd==1)=false:=by simpa using k1
    by_cases k2:kd=2
    ·subst k2
     by_cases c1:lo=0
     ·have d1:(lo==0)=true:=by simpa using c1
      by_cases c2:hi=0
      ·have d2:(hi==0)=true:=by simpa using c2
       cases ub with
       | false=>
         have HF:Hid (v=false):=Lib.hid (by rw[HV.out];simp[]);clear HV;go_wp2_with (go_at_call 55;go_must (((with_reducible refine(K7.out _).mono ?_));rintro r w7 ⟨A7,m7,c7,q7,rfl,hb7⟩;have H7:=Lib.hid hb7;have z2:=(hb7.cell (p:=⟨w.heap.size,2,none⟩) g0).trans x2;have z3:=(hb7.cell (p:=⟨w.heap.size,3,none⟩) g0).trans x3;clear hb7));go_ret;exact⟨ret_bool HF.out.symm,HB.out.trans (H7.out.mono HB.out.size)⟩
       | true=>
         by_cases c3:z=0
         ·have d3:(z==0)=true:=by simpa using c3
          have HF:Hid (v=true):=Lib.hid (by rw[HV.out];simp[c1,c2,c3]);clear HV;go_wp2_with (go_at_call 55;go_must (((with_reducible refine(K7.out _).mono ?_));rintro r w7 ⟨A7,m7,c7,q7,rfl,hb7⟩;have H7:=Lib.hid hb7;have z2:=(hb7.cell (p:=⟨w.heap.size,2,none⟩) g0).trans x2;have z3:=(hb7.cell (p:=⟨w.heap.size,3,none⟩) g0).trans x3;clear hb7));go_ret;exact⟨ret_bool HF.out.symm,HB.out.trans (H7.out.mono HB.out.size)⟩
         ·have d3:(z==0)=false:=by simpa using c3
          have HF:Hid (v=false):=Lib.hid (by rw[HV.out];simp[c3]);clear HV;go_wp2_with (go_at_call 55;go_must (((with_reducible refine(K7.out _).mono ?_));rintro r w7 ⟨A7,m7,c7,q7,rfl,hb7⟩;have H7:=Lib.hid hb7;have z2:=(hb7.cell (p:=⟨w.heap.size,2,none⟩) g0).trans x2;have z3:=(hb7.cell (p:=⟨w.heap.size,3,none⟩) g0).trans x3;clear hb7));go_ret;exact⟨ret_bool HF.out.symm,HB.out.trans (H7.out.mono HB.out.size)⟩
      ·have d2:(hi==0)=false:=by simpa using c2
       have HF:Hid (v=false):=Lib.hid (by rw[HV.out];simp[c2]);clear HV;go_wp2_with (go_at_call 55;go_must (((with_reducible refine(K7.out _).mono ?_));rintro r w7 ⟨A7,m7,c7,q7,rfl,hb7⟩;have H7:=Lib.hid hb7;have z2:=(hb7.cell (p:=⟨w.heap.size,2,none⟩) g0).trans x2;have z3:=(hb7.cell (p:=⟨w.heap.size,3,none⟩) g0).trans x3;clear hb7));go_ret;exact⟨ret_bool HF.out.symm,HB.out.trans (H7.out.mono HB.out.size)⟩
     ·have d1:(lo==0)=false:=by simpa using c1
      have HF:Hid (v=false):=Lib.hid (by rw[HV.out];simp[c1]);clear HV;go_wp2_with (go_at_call 55;go_must (((with_reducible refine(K7.out _).mono ?_));rintro r w7 ⟨A7,m7,c7,q7,rfl,hb7⟩;have H7:=Lib.hid hb7;have z2:=(hb7.cell (p:=⟨w.heap.size,2,none⟩) g0).trans x2;have z3:=(hb7.cell (p:=⟨w.heap.size,3,none⟩) g0).trans x3;clear hb7));go_ret;exact⟨ret_bool HF.out.symm,HB.out.trans (H7.out.mono HB.out.size)⟩
    ·have b2:(kd==2)=false:=by simpa using k2
     by_cases k3:kd=3
     ·subst k3
      cases tb with
      | false=>
        have HF:Hid (v=false):=Lib.hid (by rw[HV.out];simp[]);clear HV;go_wp2;go_ret;exact⟨ret_bool HF.out.symm,HB.out⟩
      | true=>
        by_cases c1:tt=0
        ·have d1:(tt==0)=true:=by simpa using c1
         cases c2:T.toList.isEmpty with
         | true=>
           have HF:Hid (v=true):=Lib.hid (by rw[HV.out];simp[c1,c2]);clear HV;go_wp2;go_ret;exact⟨ret_bool HF.out.symm,HB.out⟩
         | false=>
           have HF:Hid (v=false):=Lib.hid (by rw[HV.out];simp[c2]);clear HV;go_wp2;go_ret;exact⟨ret_bool HF.out.symm,HB.out⟩
        ·have d1:(tt==0)=false:=by simpa using c1
         have HF:Hid (v=false):=Lib.hid (by rw[HV.out];simp[c1]);clear HV;go_wp2;go_ret;exact⟨ret_bool HF.out.symm,HB.out⟩
     ·have b3:(kd==3)=false:=by simpa using k3
      have HF:Hid (v=false):=Lib.hid (by rw[HV.out];simp[k1,k2,k3]);clear HV;go_wp2;go_ret;exact⟨ret_bool HF.out.symm,HB.out⟩
structure FitPe (p:PeP):Prop where
 places:p.places.length≤1000000
 names:∀ x∈p.places,x.name.length≤1000000
 edges:∀ x∈p.places,x.edges.length≤1000000
 texts:∀ x∈p.places,∀ e∈x.edges,e.text.length≤1000000
theorem mayPe_no {p:PeP} {x:PlP} (hx:x∈p.places) (h:mayPl p x=false):mayPe p=false:=by
 cases hq:mayPe p with
 | false=>rfl
 | true=>
   unfold mayPe at hq;simp only[Bool.and_eq_true,List.all_eq_true] at hq;rw[hq.2.2.1 x hx] at h
   cases h
theorem mayPe_two {p:PeP} {i j:Nat} {x y:PlP} (hi:p.places[i]?=some y) (hj:p.places[j]?=some x) (hij:i<j) (h:y.name=x.name):mayPe p=false:=by
 cases hq:mayPe p with
 | false=>rfl
 | true=>
   unfold mayPe noTwo at hq;simp only[Bool.and_eq_true,decide_eq_true_eq] at hq;have hn:=hq.2.2.2;have:=List.pairwise_iff_getElem.1 hn;obtain⟨i1,i2⟩:=List.getElem?_eq_some_iff.1 hi;obtain⟨j1,j2⟩:=List.getElem?_eq_some_iff.1 hj;have:=this i j (by rw[List.length_map];omega) (by rw[List.length_map];omega) hij;rw[List.getElem_map,List.getElem_map,i2,j2] at this;exact absurd h this
theorem mayPe_yes {p:PeP} (h1:1≤p.cap∧p.cap≤16) (h2:1≤p.places.length∧p.places.length≤16) (h3:∀ (i:Nat) (x:PlP),p.places[i]?=some x→mayPl p x=true) (h4:∀ (i j:Nat) (y x:PlP),i<j→p.places[i]?=some y→p.places[j]?=some x→y.name≠x.name):mayPe p=true:=by
 unfold mayPe noTwo;simp only[Bool.and_eq_true,decide_eq_true_eq,List.all_eq_true];refine⟨h1,h2,fun x hx=>?_,?_⟩
 ·obtain⟨i,hi⟩:=List.getElem?_of_mem hx
  exact h3 i x hi
 ·refine List.pairwise_iff_getElem.2 fun i j hi hj hij=>?_
  rw[List.getElem_map,List.getElem_map];rw[List.length_map] at hi hj;exact h4 i j _ _ hij (List.getElem?_eq_getElem hi) (List.getElem?_eq_getElem hj)
theorem mayPl_parts {p:PeP} {x:PlP} (h1:isName x.name=true) (h2:begins x.name=true) (h3:x.edges.length≤8) (h4:∀ (i:Nat) (e:EdP),x.edges[i]?=some e→mayEd p e=true):mayPl p x=true:=by
 unfold mayPl;simp only[Bool.and_eq_true,decide_eq_true_eq,List.all_eq_true];refine⟨h1,h2,h3,fun e he=>?_⟩;obtain⟨i,hi⟩:=List.getElem?_of_mem he;exact h4 i e hi
theorem begins_at (s:Bs) (T:ByteArray) (hT:T=⟨s.toArray⟩) (h:0<T.size):begins s=decide ((97:Int)≤(T[0].toNat:Int)):=by
 subst hT
 cases s with
 | nil=>simp[ByteArray.size] at h
 | cons c r=>rfl
theorem pmay_any (p:PeP) (A:Option Addr) (n c:Nat) (w:World) (h:RdX w.heap.size w A n p.places) (hf:FitPe p):
  Calls Tryz.prog 11 #[.agg #[.int .i64 p.cap,.slice A n c]] w fun r w'=>r= .returned (.bool (mayPe p))∧Below w.heap.size w w':=by
 obtain⟨v,hv⟩:∃ v,v=mayPe p:=⟨_,rfl⟩;rw[←hv];have HV:=Lib.hid hv;have HF:=Lib.hid hf;have HN:=Lib.hid h.1;have hn1:n≤1000000:=by rw[h.1];exact hf.places
 obtain⟨cap,hcap⟩:∃ cap,cap=p.cap:=⟨_,rfl⟩;rw[←hcap]
 have hno:¬ ((1≤cap∧cap≤16)∧(1≤n∧n≤16))→v=false:=fun hno=>by
  rw[hv]
  cases hq:mayPe p with
  | false=>rfl
  | true=>
    unfold mayPe at hq;simp only[Bool.and_eq_true,decide_eq_true_eq] at hq;exact absurd ⟨hcap ▸ hq.1,by rw[h.1];exact hq.2.1⟩ hno
 by_cases c1:1≤cap
 ·by_cases c2:cap≤16
  ·by_cases c3:1≤n
   ·by_cases c4:n≤16
    ·obtain⟨W0,hW0⟩:∃ W0,W0=w.alloc (.cells #[.int .i64 cap,.slice A n c] 24):=⟨_,rfl⟩
     have hB0:Below w.heap.size w W0:=by rw[hW0];exact one_boxP w _
     have HB0:=Lib.hid hB0;have HR:=Lib.hid (h.next hB0);have HC:=Lib.hid (And.intro (And.intro c1 c2) (And.intro c3 c4));have HCAP:=Lib.hid hcap;have hs0:W0.heap.size=w.heap.size+1:=by rw[hW0];simp
     have HX:Hid (∀ W',Below W0.heap.size W0 W'→W'.cell? ⟨w.heap.size,0,none⟩=some (.int .i64 cap)∧W'.cell? ⟨w.heap.size,1,none⟩=some (.slice A n c)):=Lib.hid fun W' hb=>by
      rw[hb.cell (p:=⟨w.heap.size,0,none⟩) (by show w.heap.size<_;omega),hb.cell (p:=⟨w.heap.size,1,none⟩) (by show w.heap.size<_;omega),hW0]
      constructor <;> simp[go_sem]
     have d1:¬ cap<1:=by omega
     have d2:¬ 16<cap:=by omega
     have d3:¬ (n:Int)<1:=by omega
     have d4:¬ (16:Int)<n:=by omega
     clear h hf hv hno hB0 hcap;go_enter Tryz.func11,Tryz.ntmps11;go_wp2;rw[←hW0];clear hW0
     go_loopw [3] (fun i wr=>∃ j:Nat,j≤n∧i= .int .i64 j∧((∀ (i:Nat) (x:PlP),i<j→p.places[i]?=some x→mayPl p x=true)∧∀ (i k:Nat) (y x:PlP),i<k→k<j→p.places[i]?=some y→p.places[k]?=some x→y.name≠x.name)∧Below W0.heap.size W0 wr) (fun i _=>n - (intOf i).toNat)
     case atStart=>exact⟨0,by omega,rfl,⟨fun _ _ h=>by omega,fun _ _ _ _ _ h=>by omega⟩,Below.refl _ _⟩
     case round=>
      obtain⟨j,hj,rfl,ht,hb⟩:=hrel;obtain⟨V,hV⟩:∃ V,V=wr:=⟨_,rfl⟩;subst hV;have HB:=Lib.hid hb;have HT:=Lib.hid ht;obtain⟨y0,y1⟩:=HX.out V hb;clear ht;by_cases a:j<n
      ·obtain⟨x,hx⟩:∃ x,p.places[j]?=some x:=⟨_,List.getElem?_eq_getElem (by have:=HN.out;omega)⟩
       obtain⟨ad,Ax,cx,rfl,hl1,⟨s0,s1,s2⟩,hrx⟩:=(HR.out.next hb).at_ hx
       have g1:(ad.add (j * 3)).block<V.heap.size:=by rw[block_of_add];exact hl1
       have hxm:=List.mem_of_getElem? hx;have hex:=HF.out.edges x hxm;have hnx:=HF.out.names x hxm;have hz:=hb.size;have g3:w.heap.size<V.heap.size:=by omega
       obtain⟨TX,hTX⟩:∃ T:ByteArray,T=⟨x.name.toArray⟩:=⟨_,rfl⟩;obtain⟨mx,hMX⟩:∃ e,e=x.edges.length:=⟨_,rfl⟩;have HTX:=Lib.hid hTX;have HMX:=Lib.hid hMX;have HX2:=Lib.hid hx;have HP:Hid (mayPl p x=false→v=false):=Lib.hid fun q=>by rw[HV.out];exact mayPe_no hxm q
       have KN:∀ b,isName x.name=b→Hid (∀ w',Calls Tryz.prog 26 #[.string TX] w' fun e w2=>e= .returned (.bool b)∧w'=w2):=fun b hb=>Lib.hid fun w'=>by
        rw[hTX];have:=rname_any ⟨x.name.toArray⟩ (by simp[ByteArray.size];omega) w';rw[show isName (⟨x.name.toArray⟩:ByteArray).data.toList=b from hb] at this;exact this
       rw[←hTX] at s0;rw[←hMX] at s2 hex hrx;have HRX:=Lib.hid hrx;have HBL:Hid (Below w.heap.size w (V.alloc (.cells #[.string TX,.bool x.echo,.slice Ax mx cx] 42))):=Lib.hid ((HB0.out.trans (HB.out.mono HB0.out.size)).trans ((one_boxP V _).mono (by omega)))
       cases nm:isName x.name with
       | false=>
         have K:=KN false nm;have HG:Hid (v=false):=Lib.hid (HP.out (by unfold mayPl;rw[nm];rfl));clear hb hx hxm hrx hTX hMX nm KN;go_wp2_with (go_at_call 26;((with_reducible refine(K.out _).mono ?_));rintro e w2 ⟨rfl,rfl⟩);go_ret;exact⟨ret_bool HG.out.symm,HBL.out⟩
       | true=>
         have K:=KN true nm
         have hne:0<TX.size:=by
          have:=(name_all nm).1;rw[hTX];simpa[ByteArray.size] using List.length_pos_iff.2 this
         have hbg:begins x.name=decide ((97:Int)≤(TX[0].toNat:Int)):=begins_at x.name TX hTX hne;by_cases c97:(97:Int)≤(TX[0].toNat:Int)
         ·have e1:¬ (TX[0].toNat:Int)<97:=by omega
          have e2:decide ((TX[0].toNat:Int)<97)=false:=decide_eq_false e1;rw[decide_eq_true c97] at hbg;by_cases c8:mx≤8
          ·have e3:¬ (8:Int)<mx:=by omega
           have e4:decide ((8:Int)<mx)=false:=decide_eq_false e3;obtain⟨V1,hV1⟩:∃ V1,V1=V.alloc (.cells #[.string TX,.bool x.echo,.slice Ax mx cx] 42):=⟨_,rfl⟩;have hB1:Below V.heap.size V V1:=by rw[hV1];exact one_boxP V _
           have HB1:=Lib.hid hB1;have hs1:V1.heap.size=V.heap.size+1:=by rw[hV1];simp
           have HX1:Hid (∀ W',Below V1.heap.size V1 W'→W'.cell? ⟨V.heap.size,0,none⟩=some (.string TX)∧W'.cell? ⟨V.heap.size,2,none⟩=some (.slice Ax mx cx)∧Below V.heap.size V W'∧V.heap.size<W'.heap.size):=Lib.hid fun W' hb=>by
            rw[hb.cell (p:=⟨V.heap.size,0,none⟩) (by show V.heap.size<_;omega),hb.cell (p:=⟨V.heap.size,2,none⟩) (by show V.heap.size<_;omega),hV1];have:=hb.size;exact⟨by simp[go_sem],by simp[go_sem],HB1.out.trans (hb.mono HB1.out.size),by omega⟩
           have HNM:=Lib.hid (And.intro nm hbg);clear hb hx hxm hrx hTX hMX nm KN hB1 hbg;go_wp2_with (go_at_call 26;((with_reducible refine(K.out _).mono ?_));rintro e w2 ⟨rfl,rfl⟩);rw[←hV1];clear hV1
           go_loopw [5] (fun i wr=>∃ k:Nat,k≤j∧i= .int .i64 k∧(∀ (i:Nat) (y:PlP),i<k→p.places[i]?=some y→y.name≠x.name)∧Below V1.heap.size V1 wr) (fun i _=>j - (intOf i).toNat)
           case atStart=>exact⟨0,by omega,rfl,fun _ _ h=>by omega,Below.refl _ _⟩
           case round=>
            obtain⟨k,hk,rfl,hq,hb⟩:=hrel;obtain⟨U,hU⟩:∃ U,U=wr:=⟨_,rfl⟩;subst hU;have HU:=Lib.hid hb;have HQ:=Lib.hid hq;obtain⟨z0,z2,hVU,hzU⟩:=HX1.out U hb;have h0U:Below W0.heap.size W0 U:=HB.out.trans (hVU.mono HB.out.size);obtain⟨y0,y1⟩:=HX.out U h0U;have HL:Hid (Below w.heap.size w U):=Lib.hid (HB0.out.trans (h0U.mono HB0.out.size));clear hq;by_cases a2:k<j
            ·obtain⟨y,hy⟩:∃ y,p.places[k]?=some y:=⟨_,List.getElem?_eq_getElem (by have:=HN.out;omega)⟩
             obtain⟨ad2,Ay,cy,e2,hl2,⟨t0,_,_⟩,_⟩:=(HR.out.next h0U).at_ hy
             injection e2 with e2
             subst e2;have i3:(ad.add (k * 3)).block<U.heap.size:=by rw[block_of_add];exact hl2
             have hkn:(k:Int)<n:=by omega
             obtain⟨TY,hTY⟩:∃ T:ByteArray,T=⟨y.name.toArray⟩:=⟨_,rfl⟩;rw[←hTY] at t0;by_cases e3:TY=TX
             ·have HG:Hid (v=false):=Lib.hid (by
               rw[HV.out];refine mayPe_two hy HX2.out a2 ?_;rw[hTY,HTX.out] at e3;have:=congrArg (fun b:ByteArray=>b.data.toList) e3;exact this)
              clear hTY;subst e3;have b2:(TY.toList==TY.toList)=true:=by simp
              clear hb hVU h0U hy;go_wp2;go_quiet (fail);go_wp2;go_ret;exact⟨ret_bool HG.out.symm,below_drewN HL.out _⟩
             ·have b2:(TY.toList==TX.toList)=false:=toListP_ne e3
              have HY:Hid (∀ (i:Nat) (y:PlP),i<k+1→p.places[i]?=some y→y.name≠x.name):=Lib.hid fun i y' hi hy'=>by
               by_cases hik:i<k
               ·exact HQ.out i y' hik hy'
               ·have:i=k:=by omega
                subst this;rw[hy] at hy';injection hy' with hy'
                subst hy';intro e4;exact e3 (by rw[hTY,HTX.out,e4])
              clear hb hVU h0U hy hTY;go_wp2;go_quiet (fail);go_wp2
              go_roundw
              case rel=>exact⟨k+1,by omega,by go_num,HY.out,below_drewN HU.out _⟩
              case measure=>simp[intOf];omega
            ·have HY:Hid (∀ (i:Nat) (y:PlP),i<j→p.places[i]?=some y→y.name≠x.name):=Lib.hid fun i y' hi hy'=>HQ.out i y' (by omega) hy'
             clear hb hVU h0U;go_wp2
             go_loopw [6] (fun i wr=>∃ m:Nat,m≤mx∧i= .int .i64 m∧(∀ (i:Nat) (e:EdP),i<m→x.edges[i]?=some e→mayEd p e=true)∧Below V1.heap.size V1 wr) (fun i _=>mx - (intOf i).toNat)
             case atStart=>exact⟨0,by omega,rfl,fun _ _ h=>by omega,HU.out⟩
             case round=>
              obtain⟨m,hm,rfl,hq,hb⟩:=hrel;obtain⟨Z,hZ⟩:∃ Z,Z=wr:=⟨_,rfl⟩;subst hZ;have HU2:=Lib.hid hb;have HQ2:=Lib.hid hq;obtain⟨z0,z2,hVU,hzU⟩:=HX1.out Z hb;have h0U:Below W0.heap.size W0 Z:=HB.out.trans (hVU.mono HB.out.size);obtain⟨y0,y1⟩:=HX.out Z h0U;have H0U:=Lib.hid h0U;have HL2:Hid (Below w.heap.size w Z):=Lib.hid (HB0.out.trans (h0U.mono HB0.out.size));clear hq;by_cases a3:m<mx
              ·obtain⟨e,he⟩:∃ e,x.edges[m]?=some e:=⟨_,List.getElem?_eq_getElem (by have:=HMX.out;omega)⟩
               obtain⟨ad3,rfl,hl3,p0,p1,p2,p3,p4⟩:=((HRX.out.keep hVU).up hVU.size).at_ he
               have i4:(ad3.add (m * 5)).block<Z.heap.size:=by rw[block_of_add];exact hl3
               have het:=HF.out.texts x (List.mem_of_getElem? HX2.out) e (List.mem_of_getElem? he)
               have KE:Hid (∀ n1:Bw Z,Calls Tryz.prog 27 #[.agg #[.int .i64 e.kind,.string ⟨e.text.toArray⟩,.int .i64 e.lo,.int .i64 e.hi,.int .i64 e.to],.agg #[.int .i64 cap,.slice (some ad) n c]] n1.at fun r w''=>r= .returned (.bool (mayEd p e))∧Below n1.at.heap.size n1.at w''):=Lib.hid fun n1=>by
                have:=pmayed_any p e (some ad) n c n1.at HN.out het;rw[←HCAP.out] at this;exact this
               have b1:=bw_cell z2;have b2:=bw_cell y0;have b3:=bw_cell y1;have q0:=bw_cell p0;have q1:=bw_cell p1;have q2:=bw_cell p2;have q3:=bw_cell p3;have q4:=bw_cell p4;have HEE:=Lib.hid he;clear hb hVU h0U he het;go_wp2;have hne:=bw_some Z;refine wp_region_below (by kernel_rfl) (by kernel_rfl) ?_
               repeat (go_big_quiet_step (first | (go_at_call 27;with_reducible exact bw_calls (KE.out _)) | fail))
               refine wpQuiet_nil ?_;intro w5 hw5;obtain⟨m5,rfl⟩:=hw5;have B5:Hid (Below Z.heap.size Z m5.at):=Lib.hid m5.2;clear b1 b2 b3 q0 q1 q2 q3 q4 KE hne
               cases hme:mayEd p e with
               | true=>
                 have HY2:Hid (∀ (i:Nat) (e:EdP),i<m+1→x.edges[i]?=some e→mayEd p e=true):=Lib.hid fun i e' hi he'=>by
                  by_cases him:i<m
                  ·exact HQ2.out i e' him he'
                  ·have:i=m:=by omega
                   subst this;rw[HEE.out] at he';injection he' with he'
                   subst he';exact hme
                 have HZ5:Hid (Below V1.heap.size V1 m5.at):=Lib.hid (HU2.out.trans (B5.out.mono HU2.out.size));clear hme;go_wp2
                 go_roundw
                 case rel=>exact⟨m+1,by omega,by go_num,HY2.out,HZ5.out⟩
                 case measure=>simp[intOf];omega
               | false=>
                 have HG:Hid (v=false):=Lib.hid (HP.out (by
                  cases hpl:mayPl p x with
                  | false=>rfl
                  | true=>
                    unfold mayPl at hpl;simp only[Bool.and_eq_true,List.all_eq_true] at hpl;rw[hpl.2.2.2 e (List.mem_of_getElem? HEE.out)] at hme
                    cases hme))
                 clear hme;go_wp2;go_ret;exact⟨ret_bool HG.out.symm,HL2.out.trans (B5.out.mono HL2.out.size)⟩
              ·have HD:Hid (mayPl p x=true):=Lib.hid (mayPl_parts HNM.out.1 HNM.out.2 (by rw[←HMX.out];exact c8) fun i e hi=>HQ2.out i e (by have:=(List.getElem?_eq_some_iff.1 hi).1;have:=HMX.out;omega) hi)
               clear hb hVU h0U;go_wp2
               go_roundw
               case rel=>
                refine⟨j+1,by omega,by go_num,⟨fun i x' hi hx'=>?_,fun i k y' x' hik hk hy' hx'=>?_⟩,H0U.out⟩
                ·by_cases hij:i<j
                 ·exact HT.out.1 i x' hij hx'
                 ·have:i=j:=by omega
                  subst this;rw[HX2.out] at hx';injection hx' with hx'
                  subst hx';exact HD.out
                ·by_cases hkj:k<j
                 ·exact HT.out.2 i k y' x' hik hkj hy' hx'
                 ·have:k=j:=by omega
                  subst this;rw[HX2.out] at hx';injection hx' with hx'
                  subst hx';exact HY.out i y' hik hy'
               case measure=>simp[intOf];omega
          ·have e3:(8:Int)<mx:=by omega
           have e4:decide ((8:Int)<mx)=true:=decide_eq_true e3;have HG:Hid (v=false):=Lib.hid (HP.out (by unfold mayPl;rw[nm,hbg,←hMX,decide_eq_false c8];rfl));clear hb hx hxm hrx hTX hMX nm KN hbg;go_wp2_with (go_at_call 26;((with_reducible refine(K.out _).mono ?_));rintro e w2 ⟨rfl,rfl⟩);go_ret;exact⟨ret_bool HG.out.symm,HBL.out⟩
         ·have e1:(TX[0].toNat:Int)<97:=by omega
          have e2:decide ((TX[0].toNat:Int)<97)=true:=decide_eq_true e1;have HG:Hid (v=false):=Lib.hid (HP.out (by unfold mayPl;rw[nm,hbg,decide_eq_false c97];rfl));clear hb hx hxm hrx hTX hMX nm KN hbg;go_wp2_with (go_at_call 26;((with_reducible refine(K.out _).mono ?_));rintro e w2 ⟨rfl,rfl⟩);go_ret;exact⟨ret_bool HG.out.symm,HBL.out⟩
      ·have HG:Hid (v=true):=Lib.hid (by
        rw[HV.out];have h1:=HT.out;have h2:=HN.out;refine mayPe_yes (by rw[←HCAP.out];exact HC.out.1) (by rw[←h2];exact HC.out.2) (fun i x hi=>h1.1 i x (by have:=(List.getElem?_eq_some_iff.1 hi).1;omega) hi) fun i k y x hik hi hk=>h1.2 i k y x hik (by have:=(List.getElem?_eq_some_iff.1 hk).1;omega) hi hk)
       go_wp2;go_ret;exact⟨ret_bool HG.out.symm,HB0.out.trans (HB.out.mono HB0.out.size)⟩
    ·have HG:Hid (v=false):=Lib.hid (hno fun q=>c4 q.2.2)
     have d1:¬ cap<1:=by omega
     have d2:¬ 16<cap:=by omega
     have d3:¬ (n:Int)<1:=by omega
     have d4:(16:Int)<n:=by omega
     clear h hf hv hno HV hcap;go_enter Tryz.func11,Tryz.ntmps11;go_wp2;go_ret;exact⟨ret_bool HG.out.symm,one_boxP w _⟩
   ·have HG:Hid (v=false):=Lib.hid (hno fun q=>c3 q.2.1)
    have d1:¬ cap<1:=by omega
    have d2:¬ 16<cap:=by omega
    have d3:(n:Int)<1:=by omega
    clear h hf hv hno HV hcap;go_enter Tryz.func11,Tryz.ntmps11;go_wp2;go_ret;exact⟨ret_bool HG.out.symm,one_boxP w _⟩
  ·have HG:Hid (v=false):=Lib.hid (hno fun q=>c2 q.1.2)
   have d1:¬ cap<1:=by omega
   have d2:16<cap:=by omega
   clear h hf hv hno HV hcap;go_enter Tryz.func11,Tryz.ntmps11;go_wp2;go_ret;exact⟨ret_bool HG.out.symm,one_boxP w _⟩
 ·have HG:Hid (v=false):=Lib.hid (hno fun q=>c1 q.1.1)
  have d1:cap<1:=by omega
  clear h hf hv hno HV hcap;go_enter Tryz.func11,Tryz.ntmps11;go_wp2;go_ret;exact⟨ret_bool HG.out.symm,one_boxP w _⟩
theorem own_built (w:World) (T:TypeId) (cs:List Value) (B size n:Nat) (hl:cs.length=n * size) (hB:B≤w.heap.size) (hn:n≤maxLen):(w.alloc (.cells cs.toArray T)).ownsRow B T size (.slice (some ⟨w.heap.size,0,none⟩) n n) n cs:=
 ⟨hl,.inr ⟨w.heap.size,n,cs.toArray,rfl,hB,heap_alloc_new w _,Nat.le_refl _,hn,by simpa using hl,by rw[←hl];simp⟩⟩
theorem pword_any (T:ByteArray) (w:World):Calls Tryz.prog 18 #[.string T] w fun r w'=>r= .returned (.agg #[.int .i64 1,.string T,.int .i64 0,.slice none 0 0,.int .i64 0])∧Below w.heap.size w w':=by
 go_enter Tryz.func18,Tryz.ntmps18;go_wp2;exact bodyPost_ret (v:= .agg #[.int .i64 1,.string T,.int .i64 0,.slice none 0 0,.int .i64 0]) (by simp[results,Tryz.results18,go_sem]) rfl ⟨rfl,one_boxP w _⟩
def partsP (s:Bs):List Pt:=if s=[] then [] else [([],s)]
theorem ptexttok_any (s:Bs) (w:World):Calls Tryz.prog 19 #[.string ⟨s.toArray⟩] w fun r w'=>∃ u,r= .returned (.agg #[.int .i64 3,.string ⟨#[]⟩,.int .i64 0,u,.int .i64 0])∧OwnP w.heap.size w' u (partsP s)∧Below w.heap.size w w':=by
 obtain⟨T,hT⟩:∃ T:ByteArray,T=⟨s.toArray⟩:=⟨_,rfl⟩
 have hem:T.toList.isEmpty=decide (s=[]):=by
  rw[hT,toList_data]
  cases s with
  | nil=>rfl
  | cons a r=>rfl
 rw[←hT];have HT:=Lib.hid hT;by_cases hs:s=[]
 ·rw[decide_eq_true hs] at hem
  have HP:Hid (partsP s=[]):=Lib.hid (if_pos hs);clear hT hs;go_enter Tryz.func19,Tryz.ntmps19;go_wp2;refine bodyPost_ret (v:= .agg #[.int .i64 3,.string ⟨#[]⟩,.int .i64 0,.slice none 0 0,.int .i64 0]) (by simp[results,Tryz.results19,go_sem]) rfl ⟨_,rfl,?_,one_boxP w _⟩;rw[HP.out];exact World.ownsRow_nil _ _ _ _
 ·rw[decide_eq_false hs] at hem
  have HP:Hid (partsP s=[([],s)]):=Lib.hid (if_neg hs);clear hT hs;go_enter Tryz.func19,Tryz.ntmps19;go_wp2;have h1:=(one_boxP w (.cells #[.int .i64 3,.string ⟨#[]⟩,.int .i64 0,.slice (some ⟨w.heap.size+1,0,none⟩) 1 1,.int .i64 0] 48));refine bodyPost_ret (v:= .agg #[.int .i64 3,.string ⟨#[]⟩,.int .i64 0,.slice (some ⟨w.heap.size+1,0,none⟩) 1 1,.int .i64 0]) (by simp[results,Tryz.results19,go_sem]) rfl ⟨_,rfl,?_,h1.trans ((one_boxP _ _).mono h1.size)⟩;rw[HP.out,HT.out];have:=own_built (w.alloc (.cells #[.int .i64 3,.string ⟨#[]⟩,.int .i64 0,.slice (some ⟨w.heap.size+1,0,none⟩) 1 1,.int .i64 0] 48)) 88 [.string ⟨#[]⟩,.string ⟨s.toArray⟩] w.heap.size 2 1 rfl (by simp) (by unfold maxLen;omega);rw[show (w.alloc (.cells #[.int .i64 3,.string ⟨#[]⟩,.int .i64 0,.slice (some ⟨w.heap.size+1,0,none⟩) 1 1,.int .i64 0] 48)).heap.size=w.heap.size+1 by simp] at this;exact this
theorem pdelaytok_any (e:EdP) (w:World):Calls Tryz.prog 20 #[.agg #[.int .i64 e.kind,.string ⟨e.text.toArray⟩,.int .i64 e.lo,.int .i64 e.hi,.int .i64 e.to]] w fun r w'=>∃ v q,r= .returned v∧Tks w.heap.size w w' v q∧q.map (·.1)=tokDl e:=by
 have HR:Hid (tokDl e=[wdT wAfter,nmb e.lo,if e.hi<0 then wdT wEver else nmb e.hi]):=Lib.hid rfl;have KA:Hid (∀ w',Calls Tryz.prog 18 #[.string ⟨#[97,102,116,101,114]⟩] w' fun r w2=>r= .returned (.agg #[.int .i64 1,.string ⟨#[97,102,116,101,114]⟩,.int .i64 0,.slice none 0 0,.int .i64 0])∧Below w'.heap.size w' w2):=Lib.hid fun w'=>pword_any _ w'
 have KB:Hid (∀ w',Calls Tryz.prog 18 #[.string ⟨#[101,118,101,114]⟩] w' fun r w2=>r= .returned (.agg #[.int .i64 1,.string ⟨#[101,118,101,114]⟩,.int .i64 0,.slice none 0 0,.int .i64 0])∧Below w'.heap.size w' w2):=Lib.hid fun w'=>pword_any _ w'
 obtain⟨T,hT⟩:∃ T:ByteArray,T=⟨e.text.toArray⟩:=⟨_,rfl⟩;rw[←hT];clear hT;generalize tokDl e=R at HR ⊢;generalize e.kind=kd;generalize e.lo=lo at HR ⊢;generalize e.hi=hi at HR ⊢;generalize e.to=tt;obtain⟨W,hW⟩:∃ W,W=w.alloc (.cells #[.int .i64 kd,.string T,.int .i64 lo,.int .i64 hi,.int .i64 tt] 39):=⟨_,rfl⟩;have HB:Hid (Below w.heap.size w W):=Lib.hid (by rw[hW];exact one_boxP w _)
 have HX:Hid (∀ W',Below W.heap.size W W'→W'.cell? ⟨w.heap.size,2,none⟩=some (.int .i64 lo)∧W'.cell? ⟨w.heap.size,3,none⟩=some (.int .i64 hi)):=Lib.hid fun W' hb=>by
  have hs:W.heap.size=w.heap.size+1:=by rw[hW];simp
  rw[hb.cell (p:=⟨w.heap.size,2,none⟩) (by show w.heap.size<_;omega),hb.cell (p:=⟨w.heap.size,3,none⟩) (by show w.heap.size<_;omega),hW]
  constructor <;> simp[go_sem]
 obtain⟨x2,x3⟩:=HX.out W (Below.refl _ _);obtain⟨y2,_⟩:=HX.out W.drew (Below.refl _ _).drew;go_enter Tryz.func20,Tryz.ntmps20
 go_upto_region 1 with fail
 rw[←hW];clear hW
 go_region_held3 (fun W'=>W'.cell? ⟨w.heap.size,2,none⟩=some (.int .i64 lo)) (first | exact x2 | exact y2 | exact z2 | exact(HX.out _ (H1.out.alloc H1.out.size _)).1)
  (first | (go_at_call 18;((with_reducible refine(KA.out _).mono ?_));rintro r w1 ⟨rfl,hb1⟩;obtain⟨z2,z3⟩:=HX.out _ ((Below.refl _ _).drew.trans hb1);have H1:=Lib.hid ((Below.refl _ _).drew.trans hb1);clear hb1))
 have HC:Hid (Tks w.heap.size w (w1.alloc (.cells #[.int .i64 1,.string ⟨#[97,102,116,101,114]⟩,.int .i64 0,.slice none 0 0,.int .i64 0,.int .i64 2,.string ⟨#[]⟩,.int .i64 lo,.slice none 0 0,.int .i64 0] 48)) (.slice (some ⟨w1.heap.size,0,none⟩) 2 2) [(wdT wAfter,.slice none 0 0),(nmb lo,.slice none 0 0)]):=Lib.hid (by
  have hb:=HB.out.trans (H1.out.mono HB.out.size);refine⟨own_built w1 48 [.int .i64 1,.string ⟨#[97,102,116,101,114]⟩,.int .i64 0,.slice none 0 0,.int .i64 0,.int .i64 2,.string ⟨#[]⟩,.int .i64 lo,.slice none 0 0,.int .i64 0] w.heap.size 5 2 rfl hb.size (by unfold maxLen;omega),?_,hb.alloc hb.size _,by simp;have:=hb.size;omega⟩;intro x hx;simp only[List.mem_cons,List.not_mem_nil,or_false] at hx
  rcases hx with rfl | rfl <;> exact World.ownsRow_nil _ _ _ _)
 obtain⟨v3,v4⟩:=HX.out (w1.alloc (.cells #[.int .i64 1,.string ⟨#[97,102,116,101,114]⟩,.int .i64 0,.slice none 0 0,.int .i64 0,.int .i64 2,.string ⟨#[]⟩,.int .i64 lo,.slice none 0 0,.int .i64 0] 48)) (H1.out.alloc H1.out.size _);generalize w1.alloc (.cells #[.int .i64 1,.string ⟨#[97,102,116,101,114]⟩,.int .i64 0,.slice none 0 0,.int .i64 0,.int .i64 2,.string ⟨#[]⟩,.int .i64 lo,.slice none 0 0,.int .i64 0] 48)=U at HC v3 v4 ⊢;generalize w1.heap.size=gg at HC ⊢;clear x2 x3 y2 z2 z3 HX HB H1 KA;obtain⟨i0,hi0,hz0,hz1,hz2⟩:=info_parts infoT;by_cases hh:hi<0
 ·have hd:decide (hi<0)=true:=decide_eq_true hh
  have HRR:Hid (R=[wdT wAfter,nmb lo,wdT wEver]):=Lib.hid (by rw[HR.out,if_pos hh]);clear HR
  go_wp2_with (first
   | (go_at_call 18;((with_reducible refine(KB.out _).mono ?_));rintro r w2 ⟨rfl,hb2⟩;have H2:=Lib.hid (HC.out.beyond hb2);clear hb2)
   | (at_builtin;refine wpList_append_own _ rfl (.tmp 12) (.tmp 14) 44 rfl w.heap.size 48 i0 (.agg #[.int .i64 0,.string ⟨#[]⟩,.int .i64 0,.slice none 0 0,.int .i64 0]) 5 64 Tryz.underlying44 hi0 hz0 hz1 hz2 rfl (by decide) _ _ _ rfl (H2.out.alloc _).row ⟨w2.heap.size,0,none⟩ 1 1 [.int .i64 1,.string ⟨#[101,118,101,114]⟩,.int .i64 0,.slice none 0 0,.int .i64 0] rfl rfl (fun j u hu=>new_cells w2 48 #[.int .i64 1,.string ⟨#[101,118,101,114]⟩,.int .i64 0,.slice none 0 0,.int .i64 0] j u hu) (five_one _ _ _ _ _ _ _) (by simp[maxLen]) (by simp) (H2.out.alloc _).size ?_;intro v2 w3 hown hgrow _))
  go_ret;exact⟨_,_,rfl,(H2.out.alloc _).token (g:=wdT wEver) (World.ownsRow_nil _ _ _ _) hown hgrow,by rw[HRR.out];rfl⟩
 ·have hd:decide (hi<0)=false:=decide_eq_false hh
  have HRR:Hid (R=[wdT wAfter,nmb lo,nmb hi]):=Lib.hid (by rw[HR.out,if_neg hh]);clear HR;go_wp2_with (at_builtin;refine wpList_append_own _ rfl (.tmp 16) (.tmp 20) 44 rfl w.heap.size 48 i0 (.agg #[.int .i64 0,.string ⟨#[]⟩,.int .i64 0,.slice none 0 0,.int .i64 0]) 5 64 Tryz.underlying44 hi0 hz0 hz1 hz2 rfl (by decide) _ _ _ rfl (HC.out.alloc _).row ⟨U.heap.size,0,none⟩ 1 1 [.int .i64 2,.string ⟨#[]⟩,.int .i64 hi,.slice none 0 0,.int .i64 0] rfl rfl (fun j u hu=>new_cells U 48 #[.int .i64 2,.string ⟨#[]⟩,.int .i64 hi,.slice none 0 0,.int .i64 0] j u hu) (five_one _ _ _ _ _ _ _) (by simp[maxLen]) (by simp) (HC.out.alloc _).size ?_;intro v2 w3 hown hgrow _);go_ret;exact⟨_,rfl,_,(HC.out.alloc _).token (g:=nmb hi) (World.ownsRow_nil _ _ _ _) hown hgrow,by rw[HRR.out];rfl⟩
end Go.Proofs.YtdobinjbejagcaaGreatDoor
