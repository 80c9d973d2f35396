import Derived.Test.YtejgbpbljdhndaaDoorV2
import Derived.Deep.OwnRows
import Derived.Test.YtejgbpbljdhndaaDoorTold
import Derived.Handy
import Derived.Deep.RegionHeld3
import Derived.Test.YtejgbpbljdhndaaDoorTree2
namespace Go.Proofs.YtejgbpbljdhndaaDoor
open Go Go.RowKit
set_option maxRecDepth 100000
set_option maxHeartbeats 4000000
def stepP (R:Nat→Nat→Prop) (F:Nat→Prop) (j:Nat):Prop:=∃ i,F i∧R i j
def iterP (R:Nat→Nat→Prop) (F:Nat→Prop):Nat→Nat→Prop
 | 0=>F
 | n+1=>stepP R (iterP R F n)
theorem z1t {R:Nat→Nat→Prop} {F G:Nat→Prop} (h:∀ j,F j→G j) {j:Nat}:stepP R F j→stepP R G j:=fun ⟨i,h1,h2⟩=>⟨i,h _ h1,h2⟩
theorem z3g {R:Nat→Nat→Prop}:∀ {n i j:Nat},TimesW R (n+1) i j ↔ ∃ m,TimesW R n i m∧R m j
 | 0,i,j=>by
   simp only[TimesW];exact⟨fun ⟨m,h1,h2⟩=>⟨i,rfl,h2 ▸ h1⟩,fun ⟨m,h1,h2⟩=>⟨j,h1.symm ▸ h2,rfl⟩⟩
 | n+1,i,j=>by
   constructor
   ·rintro⟨m,h1,h2⟩
    obtain⟨q,h3,h4⟩:=z3g.mp h2;exact⟨q,⟨m,h1,h3⟩,h4⟩
   ·rintro⟨q,⟨m,h1,h3⟩,h4⟩
    exact⟨m,h1,z3g.mpr ⟨q,h3,h4⟩⟩
theorem z4e {R:Nat→Nat→Prop} {F:Nat→Prop}:∀ {n j:Nat},iterP R F n j ↔ ∃ i,F i∧TimesW R n i j
 | 0,j=>⟨fun h=>⟨j,h,rfl⟩,fun ⟨i,h1,h2⟩=>by simp only[TimesW] at h2;exact h2 ▸ h1⟩
 | n+1,j=>by
   constructor
   ·rintro⟨m,h1,h2⟩
    obtain⟨i,h3,h4⟩:=z4e.mp h1;exact⟨i,h3,z3g.mpr ⟨m,h4,h2⟩⟩
   ·rintro⟨i,h1,h2⟩
    obtain⟨m,h3,h4⟩:=z3g.mp h2;exact⟨m,z4e.mpr ⟨i,h1,h3⟩,h4⟩
theorem z7a {R:Nat→Nat→Prop} {F:Nat→Prop} {lo i:Nat} (h:∀ j,iterP R F i j→∃ m,lo≤m∧m<i∧iterP R F m j):
  ∀ k,i≤k→∀ j,iterP R F k j→∃ m,lo≤m∧m<i∧iterP R F m j:=by
 intro k
 induction k with
 | zero=>intro hk j hj;have hi:i=0:=by omega
         subst hi;exact h j hj
 | succ k ih=>
   intro hk j hj;by_cases hi:i=k+1
   ·subst hi;exact h j hj
   ·obtain⟨p,h1,h2⟩:=hj
    obtain⟨m,h3,h4,h5⟩:=ih (by omega) p h1;by_cases hm:m+1=i
    ·subst hm;exact h j ⟨p,h5,h2⟩
    ·exact⟨m+1,by omega,by omega,p,h5,h2⟩
theorem y8b {R:Nat→Nat→Prop} {F:Nat→Prop} {lo i:Nat} {hi:Int} (hh:hi<0∨(i:Int)≤hi+1) (h:(∀ j,iterP R F i j→∃ m,lo≤m∧m<i∧iterP R F m j)∨(0≤hi∧(i:Int)=hi+1)) (j:Nat):
  (∃ m,lo≤m∧m<i∧iterP R F m j) ↔ ∃ n:Nat,lo≤n∧(hi<0∨(n:Int)≤hi)∧iterP R F n j:=by
 constructor
 ·rintro⟨m,h1,h2,h3⟩
  exact⟨m,h1,by omega,h3⟩
 ·rintro⟨n,h1,h2,h3⟩
  by_cases hn:n<i
  ·exact⟨n,h1,hn,h3⟩
  ·rcases h with h | h
   ·exact z7a h n (by omega) j h3
   ·omega
theorem x3a {s:Bs} {b e:Bool} {r:Re} {F:Nat→Prop} {j:Nat} (hk:r.kind=0):stepP (Way s b e r) F j ↔ F j:=
 ⟨fun ⟨_,h1,h2⟩=>(way_0 hk).mp h2 ▸ h1,fun h=>⟨j,h,(way_0 hk).mpr rfl⟩⟩
theorem x3j {s:Bs} {b e:Bool} {r:Re} {F:Nat→Prop} {j:Nat} (hk:r.kind=1):stepP (Way s b e r) F j ↔ ∃ i c,F i∧s[i]?=some c∧mem r.set c.toNat=true∧j=i+1:=
 ⟨fun ⟨i,h1,h2⟩=>let ⟨c,h3,h4,h5⟩:=(y4c hk).mp h2;⟨i,c,h1,h3,h4,h5⟩,fun ⟨i,c,h1,h3,h4,h5⟩=>⟨i,h1,(y4c hk).mpr ⟨c,h3,h4,h5⟩⟩⟩
theorem x4d {s:Bs} {b e:Bool} {r:Re} {F:Nat→Prop} {j:Nat} (hk:r.kind=2):stepP (Way s b e r) F j ↔ j=0∧F 0∧b=true:=
 ⟨fun ⟨_,h1,h2⟩=>by obtain⟨h3,h4,h5⟩:=(way_2 hk).mp h2;subst h4;exact⟨h3.symm,h1,h5⟩,fun ⟨h1,h2,h3⟩=>⟨0,h2,(way_2 hk).mpr ⟨h1.symm,rfl,h3⟩⟩⟩
theorem x4i {s:Bs} {b e:Bool} {r:Re} {F:Nat→Prop} {j:Nat} (hk:r.kind=3):stepP (Way s b e r) F j ↔ j=s.length∧F s.length∧e=true:=
 ⟨fun ⟨_,h1,h2⟩=>by obtain⟨h3,h4,h5⟩:=(way_3 hk).mp h2;subst h4;exact⟨h3.symm,h1,h5⟩,fun ⟨h1,h2,h3⟩=>⟨s.length,h2,(way_3 hk).mpr ⟨h1.symm,rfl,h3⟩⟩⟩
theorem z30 {s:Bs} {b e:Bool} {F:Nat→Prop} {j:Nat}:stepP (WayL s b e []) F j ↔ F j:=
 ⟨fun ⟨_,h1,h2⟩=>by rw[WayL] at h2;exact h2 ▸ h1,fun h=>⟨j,h,by rw[WayL]⟩⟩
theorem z3a {s:Bs} {b e:Bool} {x:Re} {l:List Re} {F:Nat→Prop} {j:Nat}:stepP (WayL s b e (x::l)) F j ↔ stepP (WayL s b e l) (stepP (Way s b e x) F) j:=by
 constructor
 ·rintro⟨i,h1,h2⟩
  rw[WayL] at h2;obtain⟨m,h3,h4⟩:=h2;exact⟨m,⟨i,h1,h3⟩,h4⟩
 ·rintro⟨m,⟨i,h1,h3⟩,h4⟩
  exact⟨i,h1,by rw[WayL];exact⟨m,h3,h4⟩⟩
theorem z7j {s:Bs} {b e:Bool} {x:Re}:∀ {l:List Re} {F:Nat→Prop} {j:Nat},stepP (WayL s b e (l++[x])) F j ↔ stepP (Way s b e x) (stepP (WayL s b e l) F) j
 | [],F,j=>by
   rw[List.nil_append,z3a,z30];exact⟨z1t fun _ h=>z30.mpr h,z1t fun _ h=>z30.mp h⟩
 | y::l,F,j=>by
   rw[List.cons_append,z3a,z7j];exact⟨z1t fun _ h=>z3a.mpr h,z1t fun _ h=>z3a.mp h⟩
theorem y5a {s:Bs} {b e:Bool} {F:Nat→Prop} {j:Nat}:stepP (WayA s b e []) F j ↔ False:=
 ⟨fun ⟨_,_,h2⟩=>by rw[WayA] at h2;exact h2,False.elim⟩
theorem y38 {s:Bs} {b e:Bool} {x:Re}:∀ {l:List Re} {F:Nat→Prop} {j:Nat},stepP (WayA s b e (l++[x])) F j ↔ stepP (WayA s b e l) F j∨stepP (Way s b e x) F j:=by
 intro l F j
 have h:∀ (l:List Re) i,WayA s b e (l++[x]) i j ↔ WayA s b e l i j∨Way s b e x i j:=by
  intro l
  induction l with
  | nil=>intro i;rw[List.nil_append,WayA,WayA];simp[WayA]
  | cons y l ih=>intro i;rw[List.cons_append,WayA,ih,WayA,or_assoc]
 constructor
 ·rintro⟨i,h1,h2⟩
  rcases(h l i).mp h2 with h2 | h2
  ·exact .inl ⟨i,h1,h2⟩
  ·exact .inr ⟨i,h1,h2⟩
 ·rintro(⟨i,h1,h2⟩ | ⟨i,h1,h2⟩)
  ·exact⟨i,h1,(h l i).mpr (.inl h2)⟩
  ·exact⟨i,h1,(h l i).mpr (.inr h2)⟩
theorem y2a {s:Bs} {b e:Bool} {r:Re} {F:Nat→Prop} {j:Nat} (hk:r.kind=4∨r.kind=7):stepP (Way s b e r) F j ↔ stepP (WayL s b e r.kids) F j:=
 ⟨fun ⟨i,h1,h2⟩=>⟨i,h1,(y54 hk).mp h2⟩,fun ⟨i,h1,h2⟩=>⟨i,h1,(y54 hk).mpr h2⟩⟩
theorem y9x {s:Bs} {b e:Bool} {r:Re} {F:Nat→Prop} {j:Nat} (hk:r.kind=5):stepP (Way s b e r) F j ↔ stepP (WayA s b e r.kids) F j:=
 ⟨fun ⟨i,h1,h2⟩=>⟨i,h1,(y6g hk).mp h2⟩,fun ⟨i,h1,h2⟩=>⟨i,h1,(y6g hk).mpr h2⟩⟩
theorem x28 {s:Bs} {b e:Bool} {r x:Re} {F:Nat→Prop} {j:Nat} (hk:r.kind=7) (hx:r.kids=[x]):stepP (Way s b e r) F j ↔ stepP (Way s b e x) F j:=by
 rw[y2a (.inr hk),hx,z3a,z30]
theorem y9n {s:Bs} {b e:Bool} {r x:Re} {F:Nat→Prop} {j:Nat} (hk:r.kind=6) (hx:r.kids=[x]):
  stepP (Way s b e r) F j ↔ ∃ n:Nat,r.lo≤n∧(r.hi<0∨n≤r.hi)∧iterP (Way s b e x) F n j:=by
 constructor
 ·rintro⟨i,h1,h2⟩
  obtain⟨n,h3,h4,h5⟩:=(y4o hk hx).mp h2;exact⟨n,h3,h4,z4e.mpr ⟨i,h1,h5⟩⟩
 ·rintro⟨n,h3,h4,h5⟩
  obtain⟨i,h1,h2⟩:=z4e.mp h5;exact⟨i,h1,(y4o hk hx).mpr ⟨n,h3,h4,h2⟩⟩
theorem z1b {b:Nat} {w w1 w2:World} (h:w.grownBy w1 (some b)) (k:w1.grownBy w2 (some b)):w.grownBy w2 (some b):=
 ⟨k.os.trans h.os,k.tape.trans h.tape,k.output.trans h.output,Nat.le_trans h.size k.size,fun i hi hn=>(k.block i (Nat.lt_of_lt_of_le hi h.size) hn).trans (h.block i hi hn)⟩
theorem z34 (b o:Nat) (w:World) (u:Value):w.grownBy (w.setCell ⟨b,o,none⟩ u) (some b):=⟨rfl,rfl,rfl,by simp[World.setCell],fun k _ hn=>heap_setCell_other w _ k u (fun e=>hn (by rw[e]))⟩
theorem z45 {b:Nat} {w w1:World} (h:Below w.heap.size w w1):w.grownBy w1 (some b):=⟨h.os,h.tape,h.output,h.size,fun k hk _=>h.block k hk⟩
def rowB (n:Nat) (F:Nat→Bool):Array Value:=((List.range n).map fun i=>Value.bool (F i)).toArray
theorem z2e (n:Nat) (F:Nat→Bool):(rowB n F).size=n:=by simp[rowB]
theorem z40 {n i:Nat} {F:Nat→Bool} (h:i<n):(rowB n F)[i]?=some (.bool (F i)):=by simp[rowB,h]
theorem z9a {n:Nat} {F:Nat→Bool} {cs:Array Value} (hs:cs.size=n) (h:∀ i,i<n→cs[i]?=some (.bool (F i))):cs=rowB n F:=by
 apply Array.ext_getElem?;intro i;by_cases hi:i<n
 ·rw[h i hi,z40 hi]
 ·rw[Array.getElem?_eq_none (by omega),Array.getElem?_eq_none (by rw[z2e];omega)]
theorem z6c {n i:Nat} {F:Nat→Bool} (v:Bool):(rowB n F).setIfInBounds i (.bool v)=rowB n (fun k=>if k=i then v else F k):=by
 refine z9a (by simp[z2e]) fun k hk=>?_
 rw[Array.getElem?_setIfInBounds];by_cases h:i=k
 ·subst h;simp[z2e,hk]
 ·rw[if_neg h,z40 hk,if_neg (fun e=>h e.symm)]
theorem y43 {n:Nat} {F G:Nat→Bool} (h:∀ i,i<n→F i=G i):rowB n F=rowB n G:=z9a (z2e _ _) fun i hi=>by rw[z40 hi,h i hi]
theorem madeB (n:Nat):madeCells #[.bool false] n=rowB n (fun _=>false):=z9a (by simp[madeCells]) fun i hi=>by simp[madeCells,hi,Nat.mod_one]
def BRow (w:World) (g n:Nat) (F:Nat→Bool):Prop:=w.heap[g]?=some (.cells (rowB n F) 4)
theorem BRow.lt {w:World} {g n:Nat} {F:Nat→Bool} (h:BRow w g n F):g<w.heap.size:=(Array.getElem?_eq_some_iff.mp h).1
theorem BRow.cell {w:World} {g n i:Nat} {F:Nat→Bool} (h:BRow w g n F) (hi:i<n):w.cell? ⟨g,i,none⟩=some (.bool (F i)):=(cell_of_row _ _ i _ 4 (0,0) h).trans (z40 hi)
theorem BRow.free {w:World} {g n:Nat} {F:Nat→Bool} (h:BRow w g n F) (i:Nat):w.frozen? ⟨g,i,none⟩=false:=frozen_of_row _ _ i _ 4 h
theorem BRow.set {w:World} {g n:Nat} {F:Nat→Bool} (h:BRow w g n F) (i:Nat) (v:Bool):BRow (w.setCell ⟨g,i,none⟩ (.bool v)) g n (fun k=>if k=i then v else F k):=by
 unfold BRow at h ⊢;rw[heap_setCell_same w g i _ 4 _ h,z6c]
theorem BRow.below {B:Nat} {w w':World} {g n:Nat} {F:Nat→Bool} (h:BRow w g n F) (hb:Below B w w') (hg:g<B):BRow w' g n F:=by
 unfold BRow at h ⊢;rw[hb.block g hg,h]
theorem BRow.same {w:World} {g n:Nat} {F G:Nat→Bool} (h:BRow w g n F) (e:∀ i,i<n→F i=G i):BRow w g n G:=by
 unfold BRow at h ⊢;rw[h,y43 e]
theorem BRow.new (w:World) (n:Nat) (F:Nat→Bool):BRow (w.alloc (.cells (rowB n F) 4)) w.heap.size n F:=by
 unfold BRow;rw[heap_alloc_new]
theorem BRow.made (w:World) (n:Nat):BRow (w.alloc (.cells (madeCells #[.bool false] n) 4)) w.heap.size n (fun _=>false):=by
 rw[madeB];exact BRow.new w n _
theorem infoB:(Tryd.prog.info? 4).map (fun i=>(i.zero,i.size,i.bytes))=some (some (.bool false),1,1):=by kernel_rfl
theorem z6j {P:Program} (w:World) (dT sT ty:TypeId) {g h n:Nat} {F G:Nat→Bool} (hu:P.underlying dT=some (.slice 4)) (hs:(P.info? 4).map (fun i=>(i.zero,i.size,i.bytes))=some (some (.bool false),1,1))
  (hg:BRow w g n F) (hh:BRow w h n G):(Builtin.copy_ #[dT,sT] ty #[.slice (some ⟨g,0,none⟩) n n,.slice (some ⟨h,0,none⟩) n n]).run P w= .ok (goInt (n:Nat)) (w.setRow g (rowB n G)):=by
 have hl:=run_loadCells_list (P:=P) w ⟨h,0,none⟩ (rowB n G).toList fun j v hj=>by
  have hj':j<n:=by have:=(List.getElem?_eq_some_iff.mp hj).1;rw[Array.length_toList,z2e] at this;exact this
  rw[Array.getElem?_toList,z40 hj'] at hj;injection hj with hj;subst hj
  have h0:(⟨h,0,none⟩:Addr).add j=⟨h,j,none⟩:=by unfold Addr.add;split <;> simp_all
  rw[h0];exact hh.cell hj'
 have hst:=run_storeCells_at P g 0 4 (rowB n G).toList 0 (rowB n F) w hg (by simp[z2e]) fun v hv=>by
  simp only[rowB,List.mem_map] at hv;obtain⟨i,_,rfl⟩:=hv;rfl
 cases hq:P.info? 4 with
 | none=>simp[hq] at hs
 | some i=>
   have hi:i.size=1:=by simp[hq] at hs;exact hs.2.1
   have hd:List.drop n (rowB n F).toList=[]:=List.drop_eq_nil_of_le (by simp[z2e]);simp[Builtin.copy_,run_underlying hu,Builtin.lenOf,Builtin.firstCells,sizeOf,typeInfo,hq,hi,z2e] at hl hst ⊢;simp[hl,hst,hd]
theorem BRow.copied {w:World} {g n:Nat} {F:Nat→Bool} (h:BRow w g n F) (G:Nat→Bool):BRow (w.setRow g (rowB n G)) g n G:=setRow_heap w g _ _ 4 _ h
def PB (n:Nat) (F:Nat→Bool) (i:Nat):Prop:=i<n∧F i=true
section
set_option linter.unusedSimpArgs false
def updT (T:Nat→Re) (n:Nat) (x:Re):Nat→Re:=fun i=>if i=n then x else T i
def gathS (k n:Int):List Re→(Nat→Re)→(Nat→Re)
 | [],T=>T
 | x::_,T=>if k=7∧0<n∧n<10 then updT T n.toNat x else T
mutual
def gathT:Re→(Nat→Re)→(Nat→Re)
 | .mk k _ ks _ _ n,T=>gathL ks (gathS k n ks T)
def gathL:List Re→(Nat→Re)→(Nat→Re)
 | [],T=>T
 | x::l,T=>gathL l (gathT x T)
end
theorem z7f (x:Re):∀ (l:List Re) (T:Nat→Re),gathL (l++[x]) T=gathT x (gathL l T)
 | [],T=>by rw[List.nil_append,gathL,gathL,gathL]
 | y::l,T=>by rw[List.cons_append,gathL,gathL,z7f x l]
theorem z5n {l:List Re} {j:Nat} {x:Re} (h:l[j]?=some x) (T:Nat→Re):gathL (l.take (j+1)) T=gathT x (gathL (l.take j) T):=by
 obtain⟨hj,e⟩:=List.getElem?_eq_some_iff.1 h;rw[List.take_succ_eq_append_getElem hj,e,z7f]
structure KRow (B:Nat) (w:World) (G:Nat) (T:Nat→Re):Prop where
 lt:G<w.heap.size
 low:B≤G
 at_:∀ n,n<10→∃ A c,At9 w ⟨G,n * 9,none⟩ (T n) A c∧Kids (Lt B) w A (T n)
 fr:∀ j,w.frozen? ⟨G,j,none⟩=false
theorem KRow.keep {B G:Nat} {w w':World} {T:Nat→Re} (h:KRow B w G T) (hb:Below B w w') (hg:w'.heap[G]?=w.heap[G]?):KRow B w' G T:=
 ⟨Nat.lt_of_lt_of_le h.lt hb.size,h.low,fun n hn=>by
  obtain⟨A,c,h1,h2⟩:=h.at_ n hn
  exact⟨A,c,h1.keep (fun _=>World.cell?_of_block hg) (World.cell?_of_block hg),h2.keep hb⟩,fun j=>by have:=h.fr j;unfold World.frozen? at this ⊢;rw[hg];exact this⟩
theorem y2q {w:World} {G o:Nat} {r:Re} {A:Option Addr} {c:Nat} (h:At9 w ⟨G,o,none⟩ r A c):∃ u0 u1 u2 u3 u4 u5 u6 u7 u8,w.cell? ⟨G,o,none⟩=some u0∧w.cell? ⟨G,o+1,none⟩=some u1∧w.cell? ⟨G,o+2,none⟩=some u2∧
  w.cell? ⟨G,o+3,none⟩=some u3∧w.cell? ⟨G,o+4,none⟩=some u4∧w.cell? ⟨G,o+5,none⟩=some u5∧w.cell? ⟨G,o+6,none⟩=some u6∧w.cell? ⟨G,o+7,none⟩=some u7∧w.cell? ⟨G,o+8,none⟩=some u8:=by
 obtain⟨k,S,ks,lo,hi,n⟩:=r;obtain⟨a0,a1,a2,a3,a4,a5,a6,a7,a8⟩:=h;exact⟨_,_,_,_,_,_,_,_,_,a0,a1,a2,a3,a4,a5,a6,a7,a8⟩
theorem y7s {w w':World} {G o:Nat} {r:Re} {A:Option Addr} {c:Nat} (h:At9 w ⟨G,o,none⟩ r A c) (hs:∀ q,q<9→w'.cell? ⟨G,o+q,none⟩=w.cell? ⟨G,o+q,none⟩):At9 w' ⟨G,o,none⟩ r A c:=by
 obtain⟨k,S,ks,lo,hi,n⟩:=r;obtain⟨a0,a1,a2,a3,a4,a5,a6,a7,a8⟩:=h;exact⟨(hs 0 (by omega)).trans a0,(hs 1 (by omega)).trans a1,(hs 2 (by omega)).trans a2,(hs 3 (by omega)).trans a3,(hs 4 (by omega)).trans a4,(hs 5 (by omega)).trans a5,(hs 6 (by omega)).trans a6,(hs 7 (by omega)).trans a7,(hs 8 (by omega)).trans a8⟩
def put9o (W:World) (G o:Nat) (v0 v1 v2 v3 v4 v5 v6 v7 v8:Value):World:=
 ((((((((W.setCell ⟨G,o,none⟩ v0).setCell ⟨G,o+1,none⟩ v1).setCell ⟨G,o+2,none⟩ v2).setCell ⟨G,o+3,none⟩ v3).setCell ⟨G,o+4,none⟩ v4).setCell ⟨G,o+5,none⟩ v5).setCell ⟨G,o+6,none⟩ v6).setCell ⟨G,o+7,none⟩ v7).setCell ⟨G,o+8,none⟩ v8
theorem z1y {w:World} {G j:Nat} {u:Value} (u':Value) (h:w.cell? ⟨G,j,none⟩=some u):(w.setCell ⟨G,j,none⟩ u').cell? ⟨G,j,none⟩=some u':=World.cell?_setCell_same _ _ _ h
theorem z0x (w:World) (G j:Nat) (k i:Nat) (u':Value) (h:k≠G∨i≠j):(w.setCell ⟨G,j,none⟩ u').cell? ⟨k,i,none⟩=w.cell? ⟨k,i,none⟩:=World.cell?_setCell_other _ _ _ _ (fun e=>by injection e with e1 e2;omega)
theorem y1h (W:World) (G o:Nat) (v0 v1 v2 v3 v4 v5 v6 v7 v8:Value) (k i:Nat) (h:k≠G∨i<o∨o+9≤i):(put9o W G o v0 v1 v2 v3 v4 v5 v6 v7 v8).cell? ⟨k,i,none⟩=W.cell? ⟨k,i,none⟩:=by
 unfold put9o;rw[z0x _ _ _ _ _ _ (by omega),z0x _ _ _ _ _ _ (by omega),z0x _ _ _ _ _ _ (by omega),z0x _ _ _ _ _ _ (by omega),z0x _ _ _ _ _ _ (by omega),z0x _ _ _ _ _ _ (by omega),z0x _ _ _ _ _ _ (by omega),z0x _ _ _ _ _ _ (by omega),z0x _ _ _ _ _ _ (by omega)]
theorem y7q {W:World} {G o:Nat} {r:Re} {A:Option Addr} {c:Nat} (h:At9 W ⟨G,o,none⟩ r A c) (k:Int) (S:S4) (ks:List Re) (lo hi n:Int) (A':Option Addr) (c':Nat):
  At9 (put9o W G o (.int .i64 k) (.int .u64 S.1.toNat) (.int .u64 S.2.1.toNat) (.int .u64 S.2.2.1.toNat) (.int .u64 S.2.2.2.toNat) (.slice A' ks.length c') (.int .i64 lo) (.int .i64 hi) (.int .i64 n)) ⟨G,o,none⟩ (.mk k S ks lo hi n) A' c':=by
 obtain⟨u0,u1,u2,u3,u4,u5,u6,u7,u8,c0,c1,c2,c3,c4,c5,c6,c7,c8⟩:=y2q h;unfold put9o;refine⟨?_,?_,?_,?_,?_,?_,?_,?_,?_⟩
 ·repeat rw[z0x _ _ _ _ _ _ (by omega)]
  exact z1y _ c0
 ·repeat rw[z0x _ _ _ _ _ _ (by show _∨o+1≠_;omega)]
  exact z1y _ (by rw[z0x _ _ _ _ _ _ (by omega)];exact c1)
 ·repeat rw[z0x _ _ _ _ _ _ (by show _∨o+2≠_;omega)]
  exact z1y _ (by(repeat rw[z0x _ _ _ _ _ _ (by omega)]);exact c2)
 ·repeat rw[z0x _ _ _ _ _ _ (by show _∨o+3≠_;omega)]
  exact z1y _ (by(repeat rw[z0x _ _ _ _ _ _ (by omega)]);exact c3)
 ·repeat rw[z0x _ _ _ _ _ _ (by show _∨o+4≠_;omega)]
  exact z1y _ (by(repeat rw[z0x _ _ _ _ _ _ (by omega)]);exact c4)
 ·repeat rw[z0x _ _ _ _ _ _ (by show _∨o+5≠_;omega)]
  exact z1y _ (by(repeat rw[z0x _ _ _ _ _ _ (by omega)]);exact c5)
 ·repeat rw[z0x _ _ _ _ _ _ (by show _∨o+6≠_;omega)]
  exact z1y _ (by(repeat rw[z0x _ _ _ _ _ _ (by omega)]);exact c6)
 ·repeat rw[z0x _ _ _ _ _ _ (by show _∨o+7≠_;omega)]
  exact z1y _ (by(repeat rw[z0x _ _ _ _ _ _ (by omega)]);exact c7)
 ·exact z1y _ (by(repeat rw[z0x _ _ _ _ _ _ (by omega)]);exact c8)
theorem z6h (W:World) (G o:Nat) (v0 v1 v2 v3 v4 v5 v6 v7 v8:Value):W.grownBy (put9o W G o v0 v1 v2 v3 v4 v5 v6 v7 v8) (some G):=by
 unfold put9o;exact z1b (z1b (z1b (z1b (z1b (z1b (z1b (z1b (z34 _ _ _ _) (z34 _ _ _ _)) (z34 _ _ _ _)) (z34 _ _ _ _)) (z34 _ _ _ _)) (z34 _ _ _ _)) (z34 _ _ _ _)) (z34 _ _ _ _)) (z34 _ _ _ _)
theorem y0c {B G:Nat} {w w':World} (h:w.grownBy w' (some G)) (hB:B≤G) (hl:B≤w.heap.size):Below B w w':=(Below.refl B w).grown h hl (fun k hk=>by injection hk with hk;omega)
theorem z9n (W:World) (G o:Nat) (v0 v1 v2 v3 v4 v5 v6 v7 v8:Value) (a:Addr):(put9o W G o v0 v1 v2 v3 v4 v5 v6 v7 v8).frozen? a=W.frozen? a:=by unfold put9o;simp only[World.frozen?_setCell]
theorem KRow.put {B G N:Nat} {w:World} {T:Nat→Re} (h:KRow B w G T) (k:Int) (S:S4) (ks:List Re) (lo hi n:Int) (A':Option Addr) (c':Nat) (hk:Kids (Lt B) w A' (.mk k S ks lo hi n)):
  KRow B (put9o w G (N * 9) (.int .i64 k) (.int .u64 S.1.toNat) (.int .u64 S.2.1.toNat) (.int .u64 S.2.2.1.toNat) (.int .u64 S.2.2.2.toNat) (.slice A' ks.length c') (.int .i64 lo) (.int .i64 hi) (.int .i64 n)) G (updT T N (.mk k S ks lo hi n)):=by
 have hg:=z6h w G (N * 9) (.int .i64 k) (.int .u64 S.1.toNat) (.int .u64 S.2.1.toNat) (.int .u64 S.2.2.1.toNat) (.int .u64 S.2.2.2.toNat) (.slice A' ks.length c') (.int .i64 lo) (.int .i64 hi) (.int .i64 n);have hlt:=h.lt;have hlow:=h.low;have hb:=y0c hg hlow (by omega);refine⟨Nat.lt_of_lt_of_le hlt hg.size,hlow,fun i hi'=>?_,fun j=>by rw[z9n];exact h.fr j⟩;obtain⟨A,c,h1,h2⟩:=h.at_ i hi'
 unfold updT;by_cases hi2:i=N
 ·subst hi2
  rw[if_pos rfl];exact⟨A',c',y7q h1 k S ks lo hi n A' c',hk.keep hb⟩
 ·rw[if_neg hi2]
  exact⟨A,c,y7s h1 (fun q hq=>y1h _ _ _ _ _ _ _ _ _ _ _ _ _ _ (by omega)),h2.keep hb⟩
def GathC (r:Re):Prop:=∀ (A:Option Addr) (c:Nat) (w:World) (B G:Nat) (T:Nat→Re),Kids (Lt B) w A r→KRow B w G T→
 Calls Tryd.prog 20 #[valR r A c,.slice (some ⟨G,0,none⟩) 10 10] w fun e w'=>e= .returned (.tuple #[])∧Hid (KRow B w' G (gathT r T)∧w.grownBy w' (some G))
theorem y9h (k:Int) (S:S4) (ks:List Re) (lo hi n:Int) (hlen:ks.length≤1000000) (h7:k=7→∃ x,ks[0]?=some x) (ih:∀ x∈ks,GathC x):GathC (.mk k S ks lo hi n):=by
 intro A c w B G T hk hK;have hlt:=hK.lt;have hlow:=hK.low;have HLOW:Hid (B≤G∧B≤w.heap.size):=Lib.hid ⟨hlow,by omega⟩;obtain⟨m,hm⟩:∃ m,m=ks.length:=⟨_,rfl⟩;rw[←hm] at hlen;simp only[valR];rw[←hm];obtain⟨s0,hs0⟩:∃ s0:Int,s0=S.1.toNat:=⟨_,rfl⟩;obtain⟨s1,hs1⟩:∃ s1:Int,s1=S.2.1.toNat:=⟨_,rfl⟩;obtain⟨s2,hs2⟩:∃ s2:Int,s2=S.2.2.1.toNat:=⟨_,rfl⟩;obtain⟨s3,hs3⟩:∃ s3:Int,s3=S.2.2.2.toNat:=⟨_,rfl⟩;rw[←hs0,←hs1,←hs2,←hs3];have HM:=Lib.hid hm;have HK:=Lib.hid hk;have HIH:=Lib.hid ih;by_cases hg:k=7∧0<n∧n<10
 ·obtain⟨rfl,h1,h2⟩:=hg
  obtain⟨N,rfl⟩:∃ N:Nat,n=(N:Int):=⟨n.toNat,by omega⟩;obtain⟨x,hx⟩:=h7 rfl;obtain⟨ad0,A',c',rfl,hp,h9,hkr⟩:=z2t hk (k:=0) hx;rw[show ad0.add (0 * 9)=ad0 by simp[Addr.add]] at h9;have hm0:0<m:=by rw[hm];exact(List.getElem?_eq_some_iff.mp hx).1
  have hadb:ad0.block<B:=hp;have h9o:∀ o,At9 (w.alloc o).drew ad0 x A' c':=fun o=>h9.keep (fun q=>(z0b w o).cell (p:=⟨ad0.block,q,none⟩) (by show ad0.block<_;omega)) ((z0b w o).cell (by omega))
  obtain⟨k',S',ks',lo',hi',n'⟩:=x;obtain⟨A0,cc0,hat,_⟩:=hK.at_ N (by omega)
  have hput:=hK.put (N:=N) k' S' ks' lo' hi' n' A' c' hkr;have hpg:=z6h w G (N * 9) (.int .i64 k') (.int .u64 S'.1.toNat) (.int .u64 S'.2.1.toNat) (.int .u64 S'.2.2.1.toNat) (.int .u64 S'.2.2.2.toNat) (.slice A' ks'.length c') (.int .i64 lo') (.int .i64 hi') (.int .i64 n');obtain⟨W9,hW9⟩:∃ W9,W9=put9o w G (N * 9) (.int .i64 k') (.int .u64 S'.1.toNat) (.int .u64 S'.2.1.toNat) (.int .u64 S'.2.2.1.toNat) (.int .u64 S'.2.2.2.toNat) (.slice A' ks'.length c') (.int .i64 lo') (.int .i64 hi') (.int .i64 n'):=⟨_,rfl⟩;rw[←hW9] at hput hpg;have hsz:=hpg.size
  have h9p:At9 W9 ad0 (.mk k' S' ks' lo' hi' n') A' c':=by
   have hb:=y0c hpg hlow (by omega);exact h9.keep (fun q=>hb.cell (by show ad0.block<_;omega)) (hb.cell (by omega))
  have hsp:∀ o,At9 (W9.alloc o).drew ad0 (.mk k' S' ks' lo' hi' n') A' c':=fun o=>
   h9p.keep (fun q=>(z0b W9 o).cell (p:=⟨ad0.block,q,none⟩) (by show ad0.block<_;omega)) ((z0b W9 o).cell (by omega))
  have hst:∀ o,KRow B (W9.alloc o).drew G (updT T N (.mk k' S' ks' lo' hi' n'))∧w.grownBy (W9.alloc o).drew (some G):=fun o=>by
   have hb1:=(z0b W9 o).drew;exact⟨hput.keep (hb1.mono (by omega)) (hb1.block G (by omega)),z1b hpg (z45 hb1)⟩
  have hbx:∀ q,((W9.alloc (.cells #[.int .i64 7,.int .u64 s0,.int .u64 s1,.int .u64 s2,.int .u64 s3,.slice (some ad0) m c,.int .i64 lo,.int .i64 hi,.int .i64 (N:Int)] 27)).drew).cell? ⟨w.heap.size,q,none⟩=(#[.int .i64 7,.int .u64 s0,.int .u64 s1,.int .u64 s2,.int .u64 s3,.slice (some ad0) m c,.int .i64 lo,.int .i64 hi,.int .i64 (N:Int)]:Array Value)[q]?:=fun q=>by
   have hs9:W9.heap.size=w.heap.size:=by rw[hW9];unfold put9o;simp[World.setCell]
   rw[←hs9];exact cell_of_row _ _ q _ 27 (0,0) (heap_alloc_new W9 _)
  subst hW9;have HBX:=Lib.hid hbx;have HSP:=Lib.hid hsp;have HST:=Lib.hid hst
  have HT1:Hid (gathT (.mk 7 S ks lo hi (N:Int)) T=gathL ks (updT T N (.mk k' S' ks' lo' hi' n'))):=Lib.hid (by
   rw[gathT]
   cases ks with
   | nil=>simp at hx
   | cons y l=>
     simp only[List.getElem?_cons_zero,Option.some.injEq] at hx;subst hx;rw[gathS,if_pos ⟨rfl,h1,h2⟩,Int.toNat_natCast])
  obtain⟨u0,u1,u2,u3,u4,u5,u6,u7,u8,c0,c1,c2,c3,c4,c5,c6,c7,c8⟩:=y2q hat;have f0:=hK.fr (N * 9);have f1:=hK.fr (N * 9+1);have f2:=hK.fr (N * 9+2);have f3:=hK.fr (N * 9+3);have f4:=hK.fr (N * 9+4);have f5:=hK.fr (N * 9+5);have f6:=hK.fr (N * 9+6);have f7:=hK.fr (N * 9+7);have f8:=hK.fr (N * 9+8);have HS9:=Lib.hid h9o;clear hs0 hs1 hs2 hs3 hm hx hput hpg h9p hsp hst hsz hbx h9o h9 hat hkr ih hk hK;have t1:decide ((0:Int)<(N:Int))=true:=by simp;omega
  have t2:decide ((N:Int)<10)=true:=by simp;omega
  have i1:(0:Int)≤(N:Int):=by omega
  have i2:(N:Int)<10:=by omega
  generalize hTT:updT T N (.mk k' S' ks' lo' hi' n')=T1 at HST HT1;clear hTT;go_enter Tryd.func20,Tryd.ntmps20;go_wp2;refine wp_region_held_drew (S:=(fun w'=>w'.cell? ⟨w.heap.size,5,none⟩=some (.slice (some ad0) m c)∧w'.cell? ⟨w.heap.size,8,none⟩=some (.int .i64 (N:Int))∧w'.cell? ad0=some (.int .i64 k')∧w'.cell? ⟨ad0.block,ad0.off+1,none⟩=some (.int .u64 S'.1.toNat)∧w'.cell? ⟨ad0.block,ad0.off+2,none⟩=some (.int .u64 S'.2.1.toNat)∧w'.cell? ⟨ad0.block,ad0.off+3,none⟩=some (.int .u64 S'.2.2.1.toNat)∧w'.cell? ⟨ad0.block,ad0.off+4,none⟩=some (.int .u64 S'.2.2.2.toNat)∧w'.cell? ⟨ad0.block,ad0.off+5,none⟩=some (.slice A' ks'.length c')∧w'.cell? ⟨ad0.block,ad0.off+6,none⟩=some (.int .i64 lo')∧w'.cell? ⟨ad0.block,ad0.off+7,none⟩=some (.int .i64 hi')∧w'.cell? ⟨ad0.block,ad0.off+8,none⟩=some (.int .i64 n'))) (by kernel_rfl) ⟨by simp,by simp,HS9.out _⟩ ?_;intro hSo;refine wpAnyH_take (i:=0) (v:= .slice (some ⟨G,0,none⟩) 10 10) rfl (by kernel_rfl) (by kernel_rfl) (by kernel_rfl) (fun _ _ _ h=>h) (Or.inl ⟨rfl,?yy0⟩) hSo ?_
  case yy0=>(intro w hSw;(try dsimp only at hSw);go_simp)
  (try simp only[Act.put,List.setIfInBounds_toArray,List.set_cons_zero,List.set_cons_succ,List.getElem_toArray,List.getElem_cons_zero,List.getElem_cons_succ])
  refine wpAnyH_take (i:=1) (v:= .pointer (some ⟨w.heap.size,8,none⟩)) rfl (by kernel_rfl) (by kernel_rfl) (by kernel_rfl) (fun _ _ _ h=>h) (Or.inl ⟨rfl,?yy1⟩) hSo ?_
  case yy1=>(intro w hSw;(try dsimp only at hSw);go_simp)
  (try simp only[Act.put,List.setIfInBounds_toArray,List.set_cons_zero,List.set_cons_succ,List.getElem_toArray,List.getElem_cons_zero,List.getElem_cons_succ])
  refine wpAnyH_take (i:=2) (v:= .int .i64 (N:Int)) rfl (by kernel_rfl) (by kernel_rfl) (by kernel_rfl) (fun _ _ _ h=>h) (Or.inl ⟨rfl,?yy2⟩) hSo ?_
  case yy2=>(intro w hSw;(try dsimp only at hSw);go_simp)
  (try simp only[Act.put,List.setIfInBounds_toArray,List.set_cons_zero,List.set_cons_succ,List.getElem_toArray,List.getElem_cons_zero,List.getElem_cons_succ])
  refine wpAnyH_take (i:=3) (v:= .pointer (some ⟨w.heap.size,5,none⟩)) rfl (by kernel_rfl) (by kernel_rfl) (by kernel_rfl) (fun _ _ _ h=>h) (Or.inl ⟨rfl,?yy3⟩) hSo ?_
  case yy3=>(intro w hSw;(try dsimp only at hSw);go_simp)
  (try simp only[Act.put,List.setIfInBounds_toArray,List.set_cons_zero,List.set_cons_succ,List.getElem_toArray,List.getElem_cons_zero,List.getElem_cons_succ])
  refine wpAnyH_take (i:=4) (v:= .slice (some ad0) m c) rfl (by kernel_rfl) (by kernel_rfl) (by kernel_rfl) (fun _ _ _ h=>h) (Or.inl ⟨rfl,?yy4⟩) hSo ?_
  case yy4=>(intro w hSw;(try dsimp only at hSw);go_simp)
  (try simp only[Act.put,List.setIfInBounds_toArray,List.set_cons_zero,List.set_cons_succ,List.getElem_toArray,List.getElem_cons_zero,List.getElem_cons_succ])
  refine wpAnyH_take (i:=5) (v:= .pointer (some ad0)) rfl (by kernel_rfl) (by kernel_rfl) (by kernel_rfl) (fun _ _ _ h=>h) (Or.inl ⟨rfl,?yy5⟩) hSo ?_
  case yy5=>(intro w hSw;(try dsimp only at hSw);go_simp)
  (try simp only[Act.put,List.setIfInBounds_toArray,List.set_cons_zero,List.set_cons_succ,List.getElem_toArray,List.getElem_cons_zero,List.getElem_cons_succ])
  refine wpAnyH_take (i:=6) (v:=(.agg #[.int .i64 k',.int .u64 S'.1.toNat,.int .u64 S'.2.1.toNat,.int .u64 S'.2.2.1.toNat,.int .u64 S'.2.2.2.toNat,.slice A' ks'.length c',.int .i64 lo',.int .i64 hi',.int .i64 n'])) rfl (by kernel_rfl) (by kernel_rfl) (by kernel_rfl) (fun _ _ _ h=>h) (Or.inl ⟨rfl,?yy6⟩) hSo ?_
  case yy6=>(intro w hSw;(try dsimp only at hSw);go_simp)
  (try simp only[Act.put,List.setIfInBounds_toArray,List.set_cons_zero,List.set_cons_succ,List.getElem_toArray,List.getElem_cons_zero,List.getElem_cons_succ])
  refine wpAnyH_take (i:=7) (v:= .pointer (some ⟨G,N * 9,none⟩)) rfl (by kernel_rfl) (by kernel_rfl) (by kernel_rfl) (fun _ _ _ h=>h) (Or.inl ⟨rfl,?yy7⟩) hSo ?_
  case yy7=>(intro w hSw;(try dsimp only at hSw);go_simp)
  (try simp only[Act.put,List.setIfInBounds_toArray,List.set_cons_zero,List.set_cons_succ,List.getElem_toArray,List.getElem_cons_zero,List.getElem_cons_succ])
  refine wpAnyH_ready (rs:=[8]) (by kernel_rfl) (by simp) ?_;refine AllReadyH.cons rfl (fun K hK=>?_) AllReadyH.nil
  go_simp
  refine hK.out _ _ ⟨(HBX.out 5).trans rfl,(HBX.out 8).trans rfl,HSP.out _⟩ (fun _=>?_);clear hK hSo c0 c1 c2 c3 c4 c5 c6 c7 c8 f0 f1 f2 f3 f4 f5 f6 f7 f8;refine wpAnyH_done (by kernel_rfl) ?_ _;go_wp2
  go_loopw [30] (fun i wr=>∃ j:Nat,j≤m∧i= .int .i64 (j:Nat)∧Hid (KRow B wr G (gathL (ks.take j) T1)∧w.grownBy wr (some G))) (fun i _=>m - (intOf i).toNat)
  case atStart=>exact⟨0,Nat.zero_le _,rfl,Lib.hid (by rw[List.take_zero,gathL];exact HST.out _)⟩
  case round=>
   obtain⟨j,hj,rfl,HI⟩:=hrel;by_cases a:j<m
   ·obtain⟨x,hx⟩:=z0u HM.out a
    obtain⟨ad,A',c',hA,hp,h9,hkr⟩:=z2t HK.out hx;have hA2:ad0=ad:=Option.some.inj hA;rw[←hA2] at h9 hp;clear hA hA2;have hb:=y0c HI.out.2 HLOW.out.1 HLOW.out.2;have h9b:∀ o,At9 (wr.alloc o) (ad0.add (j * 9)) x A' c':=fun o=>h9.keep (fun q=>(hb.trans ((z0b wr o).mono (by have:=HI.out.2.size;have:=HLOW.out.2;omega))).cell (by show (ad0.add (j * 9)).block<_;rw[z0j];exact hp)) ((hb.trans ((z0b wr o).mono (by have:=HI.out.2.size;have:=HLOW.out.2;omega))).cell (by rw[z0j];exact hp))
    have h9c:At9 wr (ad0.add (j * 9)) x A' c':=h9.keep (fun q=>hb.cell (by show (ad0.add (j * 9)).block<_;rw[z0j];exact hp)) (hb.cell (by rw[z0j];exact hp))
    have KR:Hid (∀ o,Calls Tryd.prog 20 #[valR x A' c',.slice (some ⟨G,0,none⟩) 10 10] (wr.alloc o) fun e w'=>e= .returned (.tuple #[])∧Hid (KRow B w' G (gathL (ks.take (j+1)) T1)∧w.grownBy w' (some G))):=Lib.hid fun o=>by
     have hba:Below wr.heap.size wr (wr.alloc o):=z0b wr o;have hkb:Below B wr (wr.alloc o):=hba.mono (by have:=HI.out.2.size;have:=HLOW.out.2;omega);have h1:=HI.out.1.keep hkb (hba.block G HI.out.1.lt);refine(HIH.out x (List.mem_of_getElem? hx) A' c' (wr.alloc o) B G _ ((hkr.keep hb).keep hkb) h1).mono fun e w' ⟨q1,q2⟩=>⟨q1,Lib.hid ?_⟩
     rw[z5n hx];exact⟨q2.out.1,z1b HI.out.2 (z1b (z45 hba) q2.out.2)⟩
    obtain⟨k2,S2,ks2,lo2,hi2,n2⟩:=x;simp only[valR] at KR;obtain⟨d0,d1,d2,d3,d4,d5,d6,d7,d8⟩:=h9c;clear h9 h9b hkr hx hb;go_wp2_with (go_at_call 20;((with_reducible refine(KR.out _).mono ?_));rintro e' w2 ⟨rfl,HP⟩)
    go_roundw
    case rel=>exact⟨j+1,by omega,by go_num,HP⟩
    case measure=>simp[intOf];omega
   ·have hjm:j=m:=by omega
    subst hjm;go_wp2
    go_end0
    exact⟨rfl,Lib.hid (by have:=HI.out;rw[HM.out,List.take_length] at this;rw[HT1.out];exact this)⟩
 ·have HT1:Hid (gathT (.mk k S ks lo hi n) T=gathL ks T):=Lib.hid (by
   rw[gathT]
   cases ks with
   | nil=>rfl
   | cons y l=>rw[gathS,if_neg hg])
  have HST:Hid (∀ o,KRow B (w.alloc o) G T∧w.grownBy (w.alloc o) (some G)):=Lib.hid fun o=>by
   have hb:=z0b w o;exact⟨hK.keep (hb.mono (by omega)) (hb.block G hlt),z45 hb⟩
  clear hs0 hs1 hs2 hs3 hm ih hk hK h7;by_cases k7:k=7
  ·subst k7
   by_cases n0:0<n
   all_goals
    first | (have n10:¬ n<10:=fun h=>hg ⟨rfl,n0,h⟩;have t1:decide ((0:Int)<n)=true:=(by simp;omega);have t2:decide (n<10)=false:=(by simp;omega)) | (have t1:decide ((0:Int)<n)=false:=(by simp;omega))
    clear hg;go_enter Tryd.func20,Tryd.ntmps20;go_wp2
    go_loopw [30] (fun i wr=>∃ j:Nat,j≤m∧i= .int .i64 (j:Nat)∧Hid (KRow B wr G (gathL (ks.take j) T)∧w.grownBy wr (some G))) (fun i _=>m - (intOf i).toNat)
    case atStart=>exact⟨0,Nat.zero_le _,rfl,Lib.hid (by rw[List.take_zero,gathL];exact HST.out _)⟩
    case round=>
     obtain⟨j,hj,rfl,HI⟩:=hrel;by_cases a:j<m
     ·obtain⟨x,hx⟩:=z0u HM.out a
      obtain⟨ad,A',c',rfl,hp,h9,hkr⟩:=z2t HK.out hx;have hb:=y0c HI.out.2 HLOW.out.1 HLOW.out.2;have h9b:∀ o,At9 (wr.alloc o) (ad.add (j * 9)) x A' c':=fun o=>h9.keep (fun q=>(hb.trans ((z0b wr o).mono (by have:=HI.out.2.size;have:=HLOW.out.2;omega))).cell (by show (ad.add (j * 9)).block<_;rw[z0j];exact hp)) ((hb.trans ((z0b wr o).mono (by have:=HI.out.2.size;have:=HLOW.out.2;omega))).cell (by rw[z0j];exact hp))
      have h9c:At9 wr (ad.add (j * 9)) x A' c':=h9.keep (fun q=>hb.cell (by show (ad.add (j * 9)).block<_;rw[z0j];exact hp)) (hb.cell (by rw[z0j];exact hp))
      have KR:Hid (∀ o,Calls Tryd.prog 20 #[valR x A' c',.slice (some ⟨G,0,none⟩) 10 10] (wr.alloc o) fun e w'=>e= .returned (.tuple #[])∧Hid (KRow B w' G (gathL (ks.take (j+1)) T)∧w.grownBy w' (some G))):=Lib.hid fun o=>by
       have hba:Below wr.heap.size wr (wr.alloc o):=z0b wr o;have hkb:Below B wr (wr.alloc o):=hba.mono (by have:=HI.out.2.size;have:=HLOW.out.2;omega);have h1:=HI.out.1.keep hkb (hba.block G HI.out.1.lt);refine(HIH.out x (List.mem_of_getElem? hx) A' c' (wr.alloc o) B G _ ((hkr.keep hb).keep hkb) h1).mono fun e w' ⟨q1,q2⟩=>⟨q1,Lib.hid ?_⟩
       rw[z5n hx];exact⟨q2.out.1,z1b HI.out.2 (z1b (z45 hba) q2.out.2)⟩
      obtain⟨k2,S2,ks2,lo2,hi2,n2⟩:=x;simp only[valR] at KR;obtain⟨d0,d1,d2,d3,d4,d5,d6,d7,d8⟩:=h9c;clear h9 h9b hkr hx hb;go_wp2_with (go_at_call 20;((with_reducible refine(KR.out _).mono ?_));rintro e' w2 ⟨rfl,HP⟩)
      go_roundw
      case rel=>exact⟨j+1,by omega,by go_num,HP⟩
      case measure=>simp[intOf];omega
     ·have hjm:j=m:=by omega
      subst hjm;go_wp2
      go_end0
      exact⟨rfl,Lib.hid (by have:=HI.out;rw[HM.out,List.take_length] at this;rw[HT1.out];exact this)⟩
  ·have t0:(k==7)=false:=by simp[k7]
   clear hg;go_enter Tryd.func20,Tryd.ntmps20;go_wp2
   go_loopw [30] (fun i wr=>∃ j:Nat,j≤m∧i= .int .i64 (j:Nat)∧Hid (KRow B wr G (gathL (ks.take j) T)∧w.grownBy wr (some G))) (fun i _=>m - (intOf i).toNat)
   case atStart=>exact⟨0,Nat.zero_le _,rfl,Lib.hid (by rw[List.take_zero,gathL];exact HST.out _)⟩
   case round=>
    obtain⟨j,hj,rfl,HI⟩:=hrel;by_cases a:j<m
    ·obtain⟨x,hx⟩:=z0u HM.out a
     obtain⟨ad,A',c',rfl,hp,h9,hkr⟩:=z2t HK.out hx;have hb:=y0c HI.out.2 HLOW.out.1 HLOW.out.2;have h9b:∀ o,At9 (wr.alloc o) (ad.add (j * 9)) x A' c':=fun o=>h9.keep (fun q=>(hb.trans ((z0b wr o).mono (by have:=HI.out.2.size;have:=HLOW.out.2;omega))).cell (by show (ad.add (j * 9)).block<_;rw[z0j];exact hp)) ((hb.trans ((z0b wr o).mono (by have:=HI.out.2.size;have:=HLOW.out.2;omega))).cell (by rw[z0j];exact hp))
     have h9c:At9 wr (ad.add (j * 9)) x A' c':=h9.keep (fun q=>hb.cell (by show (ad.add (j * 9)).block<_;rw[z0j];exact hp)) (hb.cell (by rw[z0j];exact hp))
     have KR:Hid (∀ o,Calls Tryd.prog 20 #[valR x A' c',.slice (some ⟨G,0,none⟩) 10 10] (wr.alloc o) fun e w'=>e= .returned (.tuple #[])∧Hid (KRow B w' G (gathL (ks.take (j+1)) T)∧w.grownBy w' (some G))):=Lib.hid fun o=>by
      have hba:Below wr.heap.size wr (wr.alloc o):=z0b wr o;have hkb:Below B wr (wr.alloc o):=hba.mono (by have:=HI.out.2.size;have:=HLOW.out.2;omega);have h1:=HI.out.1.keep hkb (hba.block G HI.out.1.lt);refine(HIH.out x (List.mem_of_getElem? hx) A' c' (wr.alloc o) B G _ ((hkr.keep hb).keep hkb) h1).mono fun e w' ⟨q1,q2⟩=>⟨q1,Lib.hid ?_⟩
      rw[z5n hx];exact⟨q2.out.1,z1b HI.out.2 (z1b (z45 hba) q2.out.2)⟩
     obtain⟨k2,S2,ks2,lo2,hi2,n2⟩:=x;simp only[valR] at KR;obtain⟨d0,d1,d2,d3,d4,d5,d6,d7,d8⟩:=h9c;clear h9 h9b hkr hx hb;go_wp2_with (go_at_call 20;((with_reducible refine(KR.out _).mono ?_));rintro e' w2 ⟨rfl,HP⟩)
     go_roundw
     case rel=>exact⟨j+1,by omega,by go_num,HP⟩
     case measure=>simp[intOf];omega
    ·have hjm:j=m:=by omega
     subst hjm;go_wp2
     go_end0
     exact⟨rfl,Lib.hid (by have:=HI.out;rw[HM.out,List.take_length] at this;rw[HT1.out];exact this)⟩
theorem y9i (r:Re):Fine r→sizeE r≤1000000→GathC r:=by
 induction r using Re.ind with
 | h k S ks lo hi n ih=>
   intro hF hz;refine y9h k S ks lo hi n ?_ (fun h7=>?_) fun x hx=>ih x hx (hF.kids hx) ?_
   ·have:=z00 ks
    rw[sizeE] at hz;omega
   ·subst h7
    rcases hF.cases with ⟨h,_⟩ | ⟨h,_⟩ | ⟨h,_⟩ | ⟨h,_⟩ | ⟨h,_⟩ | ⟨h,_⟩ | ⟨h,_⟩ | ⟨_,x,h⟩ <;> first | (simp[Re.kind] at h;done) | exact⟨x,by simp only[Re.kids] at h;rw[h];rfl⟩
   ·have:=z31 hx
    rw[sizeE] at hz;omega
end
def re0:Re:= .mk 0 none4 [] 0 0 0
def z9:Array Value:=#[.int .i64 0,.int .u64 0,.int .u64 0,.int .u64 0,.int .u64 0,.slice none 0 0,.int .i64 0,.int .i64 0,.int .i64 0]
theorem infoR:(Tryd.prog.info? 27).map (fun i=>(i.zero,i.size,i.bytes))=some (some (.agg z9),9,88):=by kernel_rfl
theorem y80 (w:World):(Instr.makeSlice 25 (.int .i64 10) (.int .i64 10)).run Tryd.prog w= .ok (.slice (some ⟨w.heap.size,0,none⟩) 10 10) (w.alloc (.cells (madeCells z9 90) 27)):=by
 obtain⟨i,hi,hzz⟩:=Option.map_eq_some_iff.1 infoR;simp only[Prod.mk.injEq] at hzz;obtain⟨hz,hs,hb⟩:=hzz;have hr:=run_make (P:=Tryd.prog) w 25 27 i (.agg z9) Tryd.underlying25 hi hz .i64 .i64 10 10 (by omega) (Int.le_refl _) (by rw[hb];omega) (by omega);simp only[hs] at hr;exact hr
theorem y7x {n q:Nat} (hn:n<10) (hq:q<9):(madeCells z9 90)[n * 9+q]?=z9[q]?:=by
 have h1:n * 9+q<90:=by omega
 have h2:(n * 9+q) % 9=q:=by omega
 have h3:z9.size=9:=rfl;unfold madeCells;rw[h3,Array.getElem?_map,Array.getElem?_range];simp only[h1,if_pos,Option.map_some,h2];rw[Array.getElem?_eq_getElem (by rw[h3];exact hq),getElem!_pos z9 q (by rw[h3];exact hq)]
theorem KRow.made {w:World} {B:Nat} (hB:B≤w.heap.size):KRow B (w.alloc (.cells (madeCells z9 90) 27)) w.heap.size (fun _=>re0):=by
 have hg:=heap_alloc_new w (.cells (madeCells z9 90) 27);refine⟨by simp,hB,fun n hn=>⟨none,0,?_,by unfold re0;rw[Kids];exact .inl rfl⟩,fun j=>frozen_of_row _ _ j _ 27 hg⟩;have hc:∀ q,q<9→(w.alloc (.cells (madeCells z9 90) 27)).cell? ⟨w.heap.size,n * 9+q,none⟩=z9[q]?:=fun q hq=>(cell_of_row _ _ _ _ 27 (0,0) hg).trans (y7x hn hq)
 exact⟨(hc 0 (by omega)).trans rfl,(hc 1 (by omega)).trans rfl,(hc 2 (by omega)).trans rfl,(hc 3 (by omega)).trans rfl,(hc 4 (by omega)).trans rfl,(hc 5 (by omega)).trans rfl,(hc 6 (by omega)).trans rfl,(hc 7 (by omega)).trans rfl,(hc 8 (by omega)).trans rfl⟩
theorem y7r (r:Re) (hF:Fine r) (hz:sizeE r≤1000000) (A:Option Addr) (c:Nat) (w:World) (hk:Kids (Lt w.heap.size) w A r):
  Calls Tryd.prog 9 #[valR r A c] w fun e w'=>∃ G:Nat,e= .returned (.slice (some ⟨G,0,none⟩) 10 10)∧Hid (w.heap.size≤G∧KRow w.heap.size w' G (gathT r fun _=>re0)∧Below w.heap.size w w'):=by
 have KR:Hid (∀ o,Calls Tryd.prog 20 #[valR r A c,.slice (some ⟨w.heap.size+1,0,none⟩) 10 10] ((w.alloc o).alloc (.cells (madeCells z9 90) 27)) fun e w'=>e= .returned (.tuple #[])∧Hid (w.heap.size≤w.heap.size+1∧KRow w.heap.size w' (w.heap.size+1) (gathT r fun _=>re0)∧Below w.heap.size w w')):=Lib.hid fun o=>by
  have h1:=KRow.made (w:=w.alloc o) (B:=w.heap.size) (by simp);rw[World.size_alloc] at h1;have hb:Below w.heap.size w ((w.alloc o).alloc (.cells (madeCells z9 90) 27)):=(z0b w o).alloc (by simp) _;refine(y9i r hF hz A c _ _ _ _ (hk.keep hb) h1).mono fun e w' ⟨q1,q2⟩=>⟨q1,Lib.hid ⟨by omega,q2.out.1,?_⟩⟩
  exact hb.grown q2.out.2 hb.size (fun k hk=>by injection hk with hk;omega)
 have hmk:=y80;obtain⟨k,S,ks,lo,hi,n⟩:=r;simp only[valR] at KR ⊢;clear hF hz hk;go_enter Tryd.func9,Tryd.ntmps9;go_wp2_with (go_at_call 20;((with_reducible refine(KR.out _).mono ?_));rintro e' w2 ⟨rfl,HP⟩);go_ret;exact⟨_,rfl,HP⟩
theorem x06:Tryd.prog.underlying 32=some (.struct (Tryd.prog.fieldsOf 32)):=by kernel_rfl
theorem x3v:Tryd.prog.stoodInHeld 32=false:=by kernel_rfl
theorem y9q:(Tryd.prog.fieldsOf 32).toList.map (fun f=>(f.name,f.type,f.offset))=[("From",3,0),("To",3,1)]:=by kernel_rfl
theorem z91 (d:Nat) (x y x' y':Int) (w:World):(Op.equalIn (d+2) 32 (.agg #[.int .i64 x,.int .i64 y]) (.agg #[.int .i64 x',.int .i64 y'])).run Tryd.prog w= .ok (x==x' && y==y') w:=by
 have hf:=y9q;rw[run_equalIn_struct w (d+1) 32 _ _ x06 x3v];generalize (Tryd.prog.fieldsOf 32).toList=L at hf ⊢
 rcases L with _ | ⟨f,_ | ⟨g,_ | ⟨h,L⟩⟩⟩
 ·simp at hf
 ·simp at hf
 ·simp only[List.map_cons,List.map_nil,List.cons.injEq,Prod.mk.injEq,and_true] at hf
  obtain⟨⟨f1,f2,f3⟩,⟨g1,g2,g3⟩⟩:=hf;by_cases hx:x=x' <;> by_cases hyy:y=y' <;> simp[Op.eqFields,f1,f2,f3,g1,g2,g3,go_sem,run_equalIn_int _ d 3 _ _ _ _ Tryd.underlying3,hx,hyy]
 ·simp at hf
theorem y7k (x y x' y':Int) (w:World):(binOp .eql 32 (.agg #[.int .i64 x,.int .i64 y]) (.agg #[.int .i64 x',.int .i64 y'])).run Tryd.prog w= .ok (.bool (x==x' && y==y')) w:=by
 rw[run_eql_struct,z91 9998];rfl
theorem x00 (x y x' y':Int) (w:World):(binOp .neq 32 (.agg #[.int .i64 x,.int .i64 y]) (.agg #[.int .i64 x',.int .i64 y'])).run Tryd.prog w= .ok (.bool (!(x==x' && y==y'))) w:=by
 rw[run_neq_struct,z91 9998];rfl
def zM:Array Value:=#[.int .i64 0,.int .i64 0,.int .i64 0,.int .i64 0,.int .i64 0,.int .i64 0,.int .i64 0,.int .i64 0,.int .i64 0,.int .i64 0,.int .i64 0,.int .i64 0,.int .i64 0,.int .i64 0,.int .i64 0,.int .i64 0,.int .i64 0,.int .i64 0,.int .i64 0,.int .i64 0]
theorem y3i (w:World):(binOp .eql 35 (.agg zM) (.agg zM)).run Tryd.prog w= .ok (.bool true) w:=by kernel_rfl
def anyB (n:Nat) (P:Nat→Bool):Bool:=(List.range n).any P
theorem y6x (n:Nat) (P:Nat→Bool):anyB (n+1) P=(anyB n P || P n):=by simp[anyB,List.range_succ]
theorem z4p {n:Nat} {P:Nat→Bool}:anyB n P=true ↔ ∃ i,i<n∧P i=true:=by simp[anyB]
theorem z8v {w:World} {g h n:Nat} {F H:Nat→Bool} (hg:BRow w g n F) (hh:BRow w h n H) (hne:g≠h) (hn:n≤1000000):
  Calls Tryd.prog 22 #[.slice (some ⟨g,0,none⟩) n n,.slice (some ⟨h,0,none⟩) n n] w fun e w'=>e= .returned (.bool (anyB n fun i=>H i && !F i))∧BRow w' g n (fun i=>F i || H i)∧w.grownBy w' (some g):=by
 have HG:=Lib.hid hg;have HH:=Lib.hid hh;have HN:=Lib.hid hne;obtain⟨X,hX⟩:∃ X:Nat→Bool,X=fun j=>anyB j fun i=>H i && !F i:=⟨_,rfl⟩
 have HX:=Lib.hid hX
 suffices hs:Calls Tryd.prog 22 #[.slice (some ⟨g,0,none⟩) n n,.slice (some ⟨h,0,none⟩) n n] w fun e w'=>e= .returned (.bool (X n))∧Hid (BRow w' g n (fun i=>F i || H i)∧w.grownBy w' (some g)) from hs.mono fun e w' ⟨h1,h2⟩=>by rw[h1,hX];exact⟨rfl,h2.out⟩
 have x0:X 0=false:=by rw[hX];rfl
 clear hg hh hX hne;go_enter Tryd.func22,Tryd.ntmps22;go_wp2
 go_loopw [5,6] (fun fr i wr=>∃ j:Nat,j≤n∧i= .int .i64 (j:Nat)∧fr= .bool (X j)∧Hid (BRow wr g n (fun k=>if k<j then F k || H k else F k)∧w.grownBy wr (some g))) (fun _ i _=>n - (intOf i).toNat)
 case atStart=>exact⟨0,Nat.zero_le _,rfl,by rw[x0],Lib.hid ⟨HG.out.same fun i _=>by simp,⟨rfl,rfl,rfl,Nat.le_refl _,fun _ _ _=>rfl⟩⟩⟩
 case round=>
  obtain⟨j,hj,rfl,rfl,HR⟩:=hrel;by_cases a:j<n
  ·have d0:wr.cell? ⟨g,j,none⟩=some (.bool (F j)):=by have:=HR.out.1.cell a;simpa using this
   have d1:wr.cell? ⟨h,j,none⟩=some (.bool (H j)):=by
    have e:wr.heap[h]?=w.heap[h]?:=HR.out.2.block h HH.out.lt fun e=>HN.out (by injection e with e;exact e.symm)
    rw[World.cell?_of_block e];exact HH.out.cell a
   have f0:=HR.out.1.free j;have xs:X (j+1)=(X j || (H j && !F j)):=by rw[HX.out];exact y6x _ _
   have HW:∀ v,(F j || H j)=v→BRow (wr.setCell ⟨g,j,none⟩ (.bool v)) g n (fun k=>if k<j+1 then F k || H k else F k):=fun v hv=>(HR.out.1.set j v).same fun i _=>by
    by_cases c1:i=j
    ·subst c1;simp[hv]
    ·rw[if_neg c1]
     by_cases c2:i<j
     ·rw[if_pos c2,if_pos (by omega)]
     ·rw[if_neg c2,if_neg (by omega)]
   have HW:=Lib.hid HW;have HE:Hid (∀ v,w.grownBy (wr.setCell ⟨g,j,none⟩ v) (some g)):=Lib.hid fun v=>z1b HR.out.2 (z34 g j wr v)
   have HS:=Lib.hid xs;clear xs x0;obtain⟨fj,hfj⟩:∃ v,v=F j:=⟨_,rfl⟩;obtain⟨hj2,hhj⟩:∃ v,v=H j:=⟨_,rfl⟩;obtain⟨xj,hxj⟩:∃ v,v=X j:=⟨_,rfl⟩;rw[←hfj] at d0;rw[←hhj] at d1;rw[←hfj,←hhj] at HW HS;rw[←hxj] at HS ⊢;clear hfj hhj hxj
   cases fj <;> cases hj2 <;> cases xj <;> (
    go_wp2
    go_roundw
    case rel=>exact⟨j+1,by omega,by go_num,by rw[HS.out];rfl,Lib.hid ⟨HW.out _ rfl,HE.out _⟩⟩
    case measure=>simp[intOf];omega)
  ·obtain rfl:j=n:=by omega
   go_wp2;go_ret;exact⟨rfl,Lib.hid ⟨HR.out.1.same fun i hi=>by rw[if_pos hi],HR.out.2⟩⟩
end Go.Proofs.YtejgbpbljdhndaaDoor
