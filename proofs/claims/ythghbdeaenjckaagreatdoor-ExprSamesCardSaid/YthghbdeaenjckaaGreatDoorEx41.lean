import Derived.Deep.AppendLies
import Derived.Laws.OwnMore
import Derived.Sort.Grow
import Derived.Sort.EncStr
import Derived.Test.YthghbdeaenjckaaGreatDoorEx30
import Derived.Test.YthghbdeaenjckaaGreatDoorEx11
import Derived.Test.YthghbdeaenjckaaGreatDoorShelf
import Derived.Deep.LoopGhost
import Derived.Test.YthghbdeaenjckaaGreatDoorQTail
import Derived.Test.YthghbdeaenjckaaGreatDoorTk4
import Derived.Test.YthghbdeaenjckaaGreatDoorQBelow
namespace Go.Proofs.YthghbdeaenjckaaGreatDoor
open Go Go.RowKit
set_option maxRecDepth 100000
set_option maxHeartbeats 8000000
section
theorem own_pre {w:World} {base:Nat} {e:TypeId} {size g n cap m:Nat} {xs:List Value} (h:w.ownsRow base e size (.slice (some ⟨g,0,none⟩) n cap) n xs) (hm:m≤n):w.ownsRow base e size (.slice (some ⟨g,0,none⟩) m cap) m (xs.take (m * size)):=by
 have hms:m * size≤n * size:=Nat.mul_le_mul_right _ hm;refine⟨by rw[List.length_take,h.1];omega,?_⟩
 rcases h.2 with ⟨h',_⟩ | ⟨g',cap',cur,h',hb,hg,hnc,hcm,hcs,htake⟩
 ·simp at h'
 ·simp only[Value.slice.injEq,Option.some.injEq,Addr.mk.injEq,and_true,true_and] at h'
  obtain⟨rfl,rfl⟩:=h';exact .inr ⟨g,cap,cur,rfl,hb,hg,by omega,hcm,hcs,by rw[←htake,List.take_take];congr 1;omega⟩
theorem own_cap {w:World} {base:Nat} {e:TypeId} {size g n cap:Nat} {xs:List Value} (h:w.ownsRow base e size (.slice (some ⟨g,0,none⟩) n cap) n xs):n≤cap∧cap≤maxLen:=by
 rcases h.2 with ⟨h',_⟩ | ⟨g',cap',cur,h',hb,hg,hnc,hcm,hcs,htake⟩
 ·simp at h'
 ·simp only[Value.slice.injEq,Option.some.injEq,Addr.mk.injEq,and_true,true_and] at h'
  obtain⟨rfl,rfl⟩:=h';exact⟨hnc,hcm⟩
section
variable {P:Program}
theorem run_append_zero {w:World} (base:Nat) (t ty e:TypeId) (i:TypeInfo) (size:Nat) (ht:P.underlying t=some (.slice e)) (hi:P.info? e=some i) (v:Value) (n:Nat) (xs:List Value) (hown:w.ownsRow base e size v n xs) (A:Option Addr) (c:Nat):
  (Builtin.append_ #[t,t] ty #[v,.slice A 0 c]).run P w= .ok v w:=by
 rcases hown.2 with ⟨rfl,rfl⟩ | ⟨g,cap,cur,rfl,_,_,hnc,_⟩
 ·cases A with
  | none=>simp[Builtin.append_,run_underlying ht,sizeOf,typeInfo,hi,Builtin.lenOf,Builtin.firstCells]
  | some a=>simp[Builtin.append_,run_underlying ht,sizeOf,typeInfo,hi,Builtin.lenOf,Builtin.firstCells,loadCells,loadCellsFrom]
 ·cases A with
  | none=>simp[Builtin.append_,run_underlying ht,sizeOf,typeInfo,hi,Builtin.lenOf,Builtin.firstCells,hnc,storeCells]
  | some a=>simp[Builtin.append_,run_underlying ht,sizeOf,typeInfo,hi,Builtin.lenOf,Builtin.firstCells,loadCells,loadCellsFrom,hnc,storeCells]
theorem wpList_append_opt {w:World} {ops:Array Oper} {rest:List Oper} {o:Oper} {a:Act} {Q:Exit→Act→World→Prop} (hgd:o.guard=none) (s x:Operand) (t:TypeId)
  (ho:o.op= .call { callee:= .builtin .append,args:=#[s,x],argTypes:=#[t,t] })
  (base:Nat) (e:TypeId) (i:TypeInfo) (z:Value) (size bytes:Nat) (ht:P.underlying t=some (.slice e)) (hi:P.info? e=some i) (hz:i.zero=some z)
  (hsize:i.size=size) (hby:i.bytes=bytes) (hzs:z.cells.size=size) (hsz:0<size)
  (g n cap:Nat) (xs:List Value) (hs:a.eval s= .slice (some ⟨g,0,none⟩) n cap) (hown:w.ownsRow base e size (.slice (some ⟨g,0,none⟩) n cap) n xs)
  (A:Option Addr) (m c:Nat) (news:List Value) (hx:a.eval x= .slice A m c) (hl:news.length=m * size) (hnews:m=0∨∃ ad,A=some ad∧∀ j u,news[j]?=some u→w.cell? (ad.add j)=some u) (h1:∀ u∈news,u.oneCell'=true)
  (h63:n+m≤maxLen) (hbytes:(n+m) * bytes≤140737488355328) (hbase:base≤w.heap.size)
  (h:∀ g' cap' w',w'.ownsRow base e size (.slice (some ⟨g',0,none⟩) (n+m) cap') (n+m) (xs++news)→w.grownBy w' (some g)→(g'=g∨g'=w.heap.size)→wpList P ops Q rest (a.put o.dst (.slice (some ⟨g',0,none⟩) (n+m) cap')) w'):wpList P ops Q (o::rest) a w:=by
 by_cases hm:m=0
 ·subst hm
  have hn:news=[]:=List.eq_nil_of_length_eq_zero (by omega);refine wpList_plain hgd fun K hK=>?_
  have hrun:=run_append_zero (P:=P) (w:=w) base t o.type e i size ht hi _ n xs hown A c;unfold Oper.wp;simp[execOp,ho,resolve,invoke,builtin,hs,hx,hrun,Result.andThen];exact hK _ _ (h g cap w (by rw[hn,List.append_nil];exact hown) ⟨rfl,rfl,rfl,Nat.le_refl _,fun _ _ _=>rfl⟩ (.inl rfl))
 ·obtain⟨ad,rfl,hc⟩:=hnews.resolve_left hm
  exact wpList_append_lies w hgd s x t ho base e i z size bytes ht hi hz hsize hby hzs hsz _ n xs hs hown ad m c news hx hl hc h1 (by omega) h63 hbytes hbase _ rfl fun g' cap' w' h2 h3 h4 _=>
   h g' cap' w' h2 h3 (by rcases h4 with h4 | h4
                          ·left;injection h4 with h4;exact h4.symm
                          ·exact .inr h4)
end
abbrev XE:=Ex × Option Addr × Nat
def flatE (es:List XE):List Value:=es.flatMap fun e=>cells5 e.1 e.2.1 e.2.2
theorem flatE_app (a b:List XE):flatE (a++b)=flatE a++flatE b:=List.flatMap_append
theorem flatE_len:∀ es:List XE,(flatE es).length=es.length * 5
 | []=>rfl
 | e::es=>by
   have:=flatE_len es;unfold flatE at this ⊢;rw[List.flatMap_cons,List.length_append,this,List.length_cons];simp;omega
theorem flatE_take (a b:List XE):(flatE (a++b)).take (a.length * 5)=flatE a:=by
 rw[flatE_app,←flatE_len,List.take_left]
theorem flatE_last (a:List XE) (e:XE) (j:Nat):(flatE (a++[e]))[a.length * 5+j]?=(cells5 e.1 e.2.1 e.2.2)[j]?:=by
 rw[flatE_app,List.getElem?_append_right (by rw[flatE_len];omega),flatE_len,Nat.add_sub_cancel_left];simp[flatE]
theorem cells5_one (x:Ex) (A:Option Addr) (c:Nat):∀ u∈cells5 x A c,u.oneCell'=true:=by
 intro u hu;simp only[List.mem_cons,List.not_mem_nil,or_false] at hu
 rcases hu with rfl | rfl | rfl | rfl | rfl <;> rfl
theorem flatE_one (es:List XE):∀ u∈flatE es,u.oneCell'=true:=by
 intro u hu;obtain⟨e,_,he⟩:=List.mem_flatMap.1 hu;exact cells5_one _ _ _ u he
theorem AtX.cells {w:World} {a:Addr} {x:Ex} {A:Option Addr} {c:Nat} (h:AtX w a x A c):∀ j u,(cells5 x A c)[j]?=some u→w.cell? (a.add j)=some u:=by
 obtain⟨k,n,nm,op,ks⟩:=x;obtain⟨h0,h1,h2,h3,h4⟩:=h;intro j u hu
 match j,hu with
 | 0,hu=>injection hu with hu;subst hu;exact h0
 | 1,hu=>injection hu with hu;subst hu;exact h1
 | 2,hu=>injection hu with hu;subst hu;exact h2
 | 3,hu=>injection hu with hu;subst hu;exact h3
 | 4,hu=>injection hu with hu;subst hu;exact h4
 | j+5,hu=>simp at hu
theorem add_addX (a:Addr) (m n:Nat):(a.add m).add n=a.add (m+n):=by
 unfold Addr.add;by_cases h1:m=0
 ·subst h1;simp
 ·by_cases h2:n=0
  ·subst h2;simp
  ·simp[h1,h2];omega
theorem kids_flat {P:Nat→Prop} {w:World} {ad:Addr}:∀ {ks:List Ex} {i:Nat},KidsXL P w ad i ks→∃ es:List XE,es.map (·.1)=ks∧(∀ e∈es,KidsX P w e.2.1 e.1)∧∀ j u,(flatE es)[j]?=some u→w.cell? (ad.add (i * 5+j))=some u
 | [],i,_=>⟨[],rfl,by simp,by simp[flatE]⟩
 | x::ks,i,h=>by
   rw[KidsXL] at h;obtain⟨⟨A,c,h1,h2⟩,h3⟩:=h;obtain⟨es,e1,e2,e3⟩:=kids_flat h3;refine⟨(x,A,c)::es,by simp[e1],?_,fun j u hu=>?_⟩
   ·intro e he
    rcases List.mem_cons.1 he with rfl | he
    ·exact h2
    ·exact e2 e he
   ·rw[show flatE ((x,A,c)::es)=cells5 x A c++flatE es from List.flatMap_cons] at hu
    by_cases hj:j<5
    ·rw[List.getElem?_append_left (by simpa using hj)] at hu
     have:=h1.cells j u hu;rwa [add_addX] at this
    ·rw[List.getElem?_append_right (by simpa using hj)] at hu
     have:=e3 _ _ hu;simp only[List.length_cons,List.length_nil] at this;rwa [show (i+1) * 5+(j - (0+1+1+1+1+1))=i * 5+j by omega] at this
theorem kids_news {P:Nat→Prop} {w:World} {A:Option Addr} {x:Ex} (h:KidsX P w A x):∃ es:List XE,es.map (·.1)=x.kids∧(∀ e∈es,KidsX P w e.2.1 e.1)∧(x.kids.length=0∨∃ ad,A=some ad∧P ad.block∧∀ j u,(flatE es)[j]?=some u→w.cell? (ad.add j)=some u):=by
 obtain⟨k,n,nm,op,ks⟩:=x;rw[KidsX] at h
 rcases h with rfl | ⟨ad,rfl,hp,hl⟩
 ·exact⟨[],rfl,by simp,.inl rfl⟩
 ·obtain⟨es,e1,e2,e3⟩:=kids_flat hl
  exact⟨es,e1,e2,.inr ⟨ad,rfl,hp,fun j u hu=>by have:=e3 j u hu;rwa [Nat.zero_mul,Nat.zero_add] at this⟩⟩
theorem sizeXL_app (a:List Ex):∀ b,sizeXL (a++b)=sizeXL a+sizeXL b:=by
 induction a with
 | nil=>intro b;rw[List.nil_append,sizeXL];omega
 | cons x a ih=>intro b;rw[List.cons_append,sizeXL,sizeXL,ih];omega
def strV (l:Bs):Value:= .string ⟨l.toArray⟩
structure NmS (r:Ex) (w:World) (W:World) (g cap:Nat) (es:List XE) (v:Value) (L:List Bs):Prop where
 low:Below w.heap.size w W
 row:W.ownsRow w.heap.size 24 5 (.slice (some ⟨g,0,none⟩) es.length cap) es.length (flatE es)
 nms:W.ownsRow w.heap.size 9 1 v L.length (L.map strV)
 apart:v.ownBlock≠some g
 kids:∀ e∈es,KidsX (LtX w.heap.size) w e.2.1 e.1
 mem:∀ y,y∈varsX r ↔ y∈L∨y∈varsL (es.map (·.1))
 size:sizeXL (es.map (·.1))+L.length≤sizeX r
 len:∀ e∈es,nmX e.1≤100000000
theorem NmS.beyond {r:Ex} {w W W':World} {g cap:Nat} {es:List XE} {v:Value} {L:List Bs} (h:NmS r w W g cap es v L) (hb:Below W.heap.size W W'):NmS r w W' g cap es v L:=
 ⟨h.low.trans (hb.mono h.low.size),below_kept h.row hb,below_kept h.nms hb,h.apart,h.kids,h.mem,h.size,h.len⟩
theorem NmS.pop {r:Ex} {w W W':World} {g g' cap cap':Nat} {es es2:List XE} {x:XE} {v:Value} {L:List Bs} (h:NmS r w W g cap (es++[x]) v L) (e2:es2.map (·.1)=x.1.kids) (hk:∀ e∈es2,KidsX (LtX w.heap.size) w e.2.1 e.1)
  (ho:W'.ownsRow w.heap.size 24 5 (.slice (some ⟨g',0,none⟩) (es.length+x.1.kids.length) cap') (es.length+x.1.kids.length) (flatE es++flatE es2)) (hg:W.grownBy W' (some g)) (hg':g'=g∨g'=W.heap.size):
  Below w.heap.size w W'∧W'.ownsRow w.heap.size 24 5 (.slice (some ⟨g',0,none⟩) (es++es2).length cap') (es++es2).length (flatE (es++es2))∧W'.ownsRow w.heap.size 9 1 v L.length (L.map strV)∧v.ownBlock≠some g'∧(∀ e∈es++es2,KidsX (LtX w.heap.size) w e.2.1 e.1):=by
 have hle:x.1.kids.length=es2.length:=by rw[←e2,List.length_map]
 have hgB:=h.row.lt g rfl;refine⟨?_,?_,?_,?_,?_⟩
 ·refine h.low.trans ?_
  exact below_of_grown hg hgB.1 h.low.size
 ·rw[List.length_append,←hle,flatE_app];exact ho
 ·exact h.nms.kept hg (.inr h.apart)
 ·rcases hg' with rfl | rfl
  ·exact h.apart
  ·intro e
   have:=h.nms.lt _ e;omega
 ·intro e he
  rcases List.mem_append.1 he with he | he
  ·exact h.kids e (List.mem_append_left _ he)
  ·exact hk e he
theorem NmS.at {r:Ex} {w W:World} {g cap:Nat} {es:List XE} {x:XE} {v:Value} {L:List Bs} (h:NmS r w W g cap (es++[x]) v L):∀ j u,(cells5 x.1 x.2.1 x.2.2)[j]?=some u→W.cell? ⟨g,es.length * 5+j,none⟩=some u:=by
 intro j u hu
 have hj:j<5:=by
  by_cases c:j<5
  ·exact c
  ·rw[List.getElem?_eq_none (by simp;omega)] at hu;cases hu
 rw[h.row.cellAt _ (by simp;omega),flatE_last];exact hu
theorem nmX_kids {k n:Int} {nm op:Bs} {ks:List Ex}:nmXL ks≤nmX (.mk k n nm op ks)∧nm.length≤nmX (.mk k n nm op ks):=by rw[nmX];omega
theorem nmXL_le {k n:Int} {nm op:Bs} {ks:List Ex} {N:Nat} (h:nmX (.mk k n nm op ks)≤N):∀ x∈ks,nmX x≤N:=fun x hx=>by
 have:=nmXL_mem hx;have:=(nmX_kids (k:=k) (n:=n) (nm:=nm) (op:=op) (ks:=ks)).1;omega
theorem NmS.done {r:Ex} {w W W':World} {g g' cap cap':Nat} {es es2:List XE} {x:XE} {v v':Value} {L L':List Bs} (h:NmS r w W g cap (es++[x]) v L) (e2:es2.map (·.1)=x.1.kids) (hL:∀ y,y∈L' ↔ y∈L∨(x.1.kind=1∧y=x.1.name)) (hlen:L'.length≤L.length+1)
  (low:Below w.heap.size w W') (row:W'.ownsRow w.heap.size 24 5 (.slice (some ⟨g',0,none⟩) (es++es2).length cap') (es++es2).length (flatE (es++es2))) (nms:W'.ownsRow w.heap.size 9 1 v' L'.length (L'.map strV)) (apart:v'.ownBlock≠some g') (kids:∀ e∈es++es2,KidsX (LtX w.heap.size) w e.2.1 e.1):
  NmS r w W' g' cap' (es++es2) v' L'∧sizeXL ((es++es2).map (·.1))<sizeXL ((es++[x]).map (·.1)):=by
 obtain⟨⟨k,n,nm,op,ks⟩,A,c⟩:=x;simp only[Ex.kids,Ex.kind,Ex.name] at e2 hL;have hsz:=h.size;have e1:((es++[((Ex.mk k n nm op ks,A,c):XE)]).map (·.1))=es.map (·.1)++[Ex.mk k n nm op ks]:=by simp
 have e3:((es++es2).map (·.1))=es.map (·.1)++ks:=by rw[List.map_append,e2]
 rw[e1,sizeXL_app,sizeXL,sizeXL,sizeX] at hsz;refine⟨⟨low,row,nms,apart,kids,fun y=>?_,?_,?_⟩,?_⟩
 ·rw[h.mem y,e1,e3,varsL_app,varsL_app,varsL,varsX,varsL,List.append_nil,hL]
  simp only[List.mem_append];by_cases c:k=1
  ·rw[if_pos c]
   simp only[List.mem_singleton,c,true_and]
   constructor
   ·rintro(q | q | q | q)
    ·exact .inl (.inl q)
    ·exact .inr (.inl q)
    ·exact .inl (.inr q)
    ·exact .inr (.inr q)
   ·rintro((q | q) | q | q)
    ·exact .inl q
    ·exact .inr (.inr (.inl q))
    ·exact .inr (.inl q)
    ·exact .inr (.inr (.inr q))
  ·rw[if_neg c]
   simp only[c,false_and,or_false,List.not_mem_nil,false_or]
 ·rw[e3,sizeXL_app];omega
 ·intro e he
  rcases List.mem_append.1 he with he | he
  ·exact h.len e (List.mem_append_left _ he)
  ·have hx:=h.len (Ex.mk k n nm op ks,A,c) (by simp)
   exact nmXL_le hx e.1 (by rw[←e2];exact List.mem_map_of_mem he)
 ·rw[e1,e3,sizeXL_app,sizeXL_app,sizeXL,sizeXL,sizeX];omega
def RowS (w:World) (v:Value) (l:List Bs):Prop:=∃ A c,v= .slice A l.length c∧(l=[]∨∃ b,A=some ⟨b,0,none⟩∧b<w.heap.size∧∀ j y,l[j]?=some y→w.cell? ⟨b,j,none⟩=some (strV y))
theorem RowS.low {w w':World} {v:Value} {l:List Bs} (h:RowS w v l) (hb:Below w.heap.size w w'):RowS w' v l:=by
 obtain⟨A,c,e,h⟩:=h;refine⟨A,c,e,?_⟩
 rcases h with h | ⟨b,e2,hlt,hc⟩
 ·exact .inl h
 ·exact .inr ⟨b,e2,Nat.lt_of_lt_of_le hlt hb.size,fun j y hj=>(hb.cell (p:=⟨b,j,none⟩) hlt).trans (hc j y hj)⟩
open Go.Sort in
theorem put_below {B q:Nat} (hB:B≤q) (w:World) (n:Nat) (d:Array Bs):Below B w (putRow encStr (Sort.ahead w n) q 0 d):=
 ⟨rfl,rfl,rfl,by simp,fun k hk=>by
  unfold putRow mapBlock;rw[Array.getElem?_modify,if_neg (by omega)]
  rfl⟩
open Go.Sort in
theorem grow_below {B:Nat} {w w':World} (h:Below B w w') (hB:B≤w'.heap.size) (os:Array Obj):Below B w (grow w' os):=
 h.trans ⟨rfl,rfl,rfl,by simp,fun k hk=>heap_grow_old _ _ (by omega)⟩
open Go.Sort in
theorem own_holds {B:Nat} {w:World} {q cap:Nat} {L:List Bs} (h:w.ownsRow B 9 1 (.slice (some ⟨q,0,none⟩) L.length cap) L.length (L.map strV)):Holds encStr w q 0 L.toArray:=by
 intro j hj;have hj':j<L.length:=by simpa using hj
 rw[Nat.zero_add];refine⟨?_,h.frozenAt j⟩;rw[h.cellAt j (by omega),List.getElem?_map,List.getElem?_eq_getElem hj',getElem!_pos _ j hj];simp[strV]
open Go.Sort in
theorem sort_row {B:Nat} {w:World} {q cap:Nat} {L:List Bs} (h:w.ownsRow B 9 1 (.slice (some ⟨q,0,none⟩) L.length cap) L.length (L.map strV)) (hL:L.length≤1000000) (hB:B≤w.heap.size):
  Calls Tryz.prog 35 #[.slice (some ⟨q,0,none⟩) L.length cap] w fun e w'=>e= .returned (.tuple #[])∧Holds encStr w' q 0 (sortN L).toArray∧Below B w w':=by
 obtain⟨h1,h2⟩:=h.lt q rfl;refine(Tryz.slices_Sort_string q 0 cap L w (own_holds h) h2 (by omega)).mono ?_;rintro e w' ⟨rfl,n,os,rfl⟩;refine⟨rfl,holds_grow _ _ _ _ _ _ (by simpa using h2) (holds_putRow _ _ _ _ _ _ (holds_ahead _ _ n _ _ _ (own_holds h)) (by simp[List.length_mergeSort])),grow_below (put_below h1 w n _) (by simpa using hB) os⟩
theorem compact_few (d:Array Bs):∀ m,(Lib.compactUpTo d m).length≤m
 | 0=>by simp[Lib.compactUpTo]
 | m+1=>by
   have:=compact_few d m;rw[Lib.compactUpTo_succ,List.length_append]
   split <;> simp <;> omega
open Go.Sort in
theorem compact_row {B:Nat} {w:World} {q cap:Nat} {L:List Bs} (h:Holds encStr w q 0 (sortN L).toArray) (hq:B≤q) (hq2:q<w.heap.size) (hL:L.length≤1000000) (hcap:L.length≤cap) (V:List Bs) (hV:∀ y,y∈L ↔ y∈V):
  Calls Tryz.prog 36 #[.slice (some ⟨q,0,none⟩) L.length cap] w fun e w'=>∃ v,e= .returned v∧RowS w' v (V.foldl putN [])∧Below B w w':=by
 have hl:(sortN L).length=L.length:=List.length_mergeSort _;have:=Tryz.slices_Compact_string q 0 cap (sortN L) w h (by omega) (by omega);rw[hl] at this
 have hc:(Lib.compact (sortN L)).length≤L.length:=by
  rw[←hl];exact compact_few (sortN L).toArray _
 refine this.mono ?_;rintro e w' ⟨rfl,n,rfl⟩;rw[compact_sort L V hV] at hc ⊢;refine⟨_,rfl,⟨_,_,rfl,.inr ⟨q,rfl,by simpa using hq2,fun j y hj=>?_⟩⟩,put_below hq w n _⟩;have hjl:j<(V.foldl putN []).length:=(List.getElem?_eq_some_iff.1 hj).1;have hp:=cell?_putRow encStr (Sort.ahead w n) q 0 (sortN L).toArray (V.foldl putN []++List.replicate (L.length - (V.foldl putN []).length) []).toArray (holds_ahead _ _ n _ _ _ h) (by simp[hl];omega) j (by simp;omega);rw[Nat.zero_add] at hp;rw[hp,getElem!_pos _ j (by simp;omega)]
 have:(V.foldl putN [])[j]'hjl=y:=by
  have:=(List.getElem?_eq_some_iff.1 hj).2;exact this
 simp[List.getElem_append_left hjl,this,strV]
theorem names_none {r:Ex} {w W:World} {g cap:Nat} {v:Value} (h:NmS r w W g cap [] v []):namesX r []=[]:=by
 have:varsX r=[]:=List.eq_nil_iff_forall_not_mem.2 fun y hy=>by
  have:=(h.mem y).1 hy;simp[varsL] at this
 unfold namesX;rw[this];rfl
end
theorem infoE:(Tryz.prog.info? 24).map (fun i=>(i.zero,i.size,i.bytes))=some (some (.agg #[.int .i64 0,.int .i64 0,.string ⟨#[]⟩,.string ⟨#[]⟩,.slice none 0 0]),5,72):=by kernel_rfl
theorem infoS:(Tryz.prog.info? 9).map (fun i=>(i.zero,i.size,i.bytes))=some (some (.string ⟨#[]⟩),1,16):=by kernel_rfl
def LoopNm (r:Ex) (w:World) (k:Nat) (v3 v4:Value) (wr:World):Prop:=∃ es g cap L,v4= .slice (some ⟨g,0,none⟩) es.length cap∧k=sizeXL (es.map (·.1))∧Hid (NmS r w wr g cap es v3 L)
theorem names_start (r:Ex) (A:Option Addr) (c:Nat) (w:World) (hk:KidsX (LtX w.heap.size) w A r) (hn:nmX r≤100000000) (o:Obj):
  NmS r w ((w.alloc o).alloc (.cells ⟨cells5 r A c⟩ 24)) (w.heap.size+1) 1 [(r,A,c)] (.slice none 0 0) []:=by
 have hl:=World.ownsRow_lit (base:=w.heap.size) (e:=24) (size:=5) (w.alloc o) ⟨cells5 r A c⟩ 1 (by simp) (by decide) (by simp);rw[show (w.alloc o).heap.size=w.heap.size+1 by simp] at hl;refine⟨(one_boxX w o).alloc (by simp) _,?_,World.ownsRow_nil _ _ _ _,by simp[Value.ownBlock],?_,?_,?_,?_⟩
 ·simpa[flatE] using hl
 ·intro e he;rw[List.mem_singleton] at he;subst he;exact hk
 ·intro y;simp[varsL]
 ·simp[sizeXL]
 ·intro e he;rw[List.mem_singleton] at he;subst he;exact hn
theorem cnames_any (r:Ex) (A:Option Addr) (c:Nat) (w:World) (hk:KidsX (LtX w.heap.size) w A r) (hs:sizeX r≤1000000) (hn:nmX r≤100000000):
  Calls Tryz.prog 19 #[valX r A c] w fun e w'=>∃ v,e= .returned v∧RowS w' v (namesX r [])∧Below w.heap.size w w':=by
 have HS:Hid (∀ o,NmS r w ((w.alloc o).alloc (.cells ⟨cells5 r A c⟩ 24)) (w.heap.size+1) 1 [(r,A,c)] (.slice none 0 0) []):=Lib.hid (names_start r A c w hk hn);have HZ:=Lib.hid hs;obtain⟨R,hR⟩:∃ R,R=r:=⟨_,rfl⟩;have HR:=Lib.hid hR;obtain⟨n0,hn0⟩:∃ n0,n0=sizeX r:=⟨_,rfl⟩;have HN0:=Lib.hid hn0;obtain⟨i0,hi0,hz0,hz1,hz2⟩:=info_parts infoE;obtain⟨j0,hj0,hy0,hy1,hy2⟩:=info_parts infoS;rw[valX_eq];clear hk hn hs hn0
 suffices hsu:Calls Tryz.prog 19 #[.agg #[.int .i64 r.kind,.int .i64 r.n,.string ⟨r.name.toArray⟩,.string ⟨r.op.toArray⟩,.slice A r.kids.length c]] w fun e w'=>∃ v,e= .returned v∧RowS w' v (namesX R [])∧Below w.heap.size w w' by rw[hR] at hsu;exact hsu
 clear hR;go_enter Tryz.func19,Tryz.ntmps19;go_wp2
 go_loopg [3,4] n0 (fun k v3 v4 wr=>LoopNm R w k v3 v4 wr)
 case atStart=>exact⟨[(r,A,c)],w.heap.size+1,1,[],rfl,by rw[HN0.out];simp[sizeXL],Lib.hid (by rw[HR.out];exact HS.out _)⟩
 case round=>
  obtain⟨es,g,cap,L,rfl,hgk,H⟩:=hrel
  rcases List.eq_nil_or_concat es with rfl | ⟨es',x,rfl⟩
  ·have hlt:=H.out.low.size
   have hL9:L.length≤1000000:=by
    have h1:=H.out.size;have:=HZ.out;rw[HR.out] at h1;omega
   have hmem:∀ y,y∈L ↔ y∈varsX R:=fun y=>by rw[H.out.mem y];simp[varsL]
   have hbw:=Lib.hid H.out.low
   rcases H.out.nms.2 with ⟨h1,h2⟩ | ⟨q,cq,cur,h1,h2,h3,h4,_⟩
   ·have hL:L=[]:=List.eq_nil_of_length_eq_zero h2
    subst hL;subst h1;have HE:=Lib.hid (names_none H.out);have K1:=Lib.hid fun w=>Tryz.slices_Sort_string_none none 0 w
    have K2:=Lib.hid fun w=>Tryz.slices_Compact_string_empty none 0 w
    clear hmem H h2;go_wp2_with (first | (go_at_call 35;((with_reducible refine(K1.out _).mono ?_);rintro e w1 ⟨rfl,rfl⟩)) | (go_at_call 36;((with_reducible refine(K2.out _).mono ?_);rintro e w1 ⟨rfl,rfl⟩)));go_ret;exact⟨_,rfl,by rw[HE.out];exact⟨none,0,rfl,.inl rfl⟩,hbw.out⟩
   ·obtain⟨n1,hn1⟩:∃ n,n=L.length:=⟨_,rfl⟩
    have K1:Hid (Calls Tryz.prog 35 #[.slice (some ⟨q,0,none⟩) n1 cq] wr fun e w'=>e= .returned (.tuple #[])∧Go.Sort.Holds encStr w' q 0 (sortN L).toArray∧Below w.heap.size wr w'):=Lib.hid (by rw[hn1];exact sort_row (by have:=H.out.nms;rw[h1] at this;exact this) hL9 hlt);have hq2:q<wr.heap.size:=(H.out.nms.lt q (by rw[h1];rfl)).2;have K2:Hid (∀ W,Go.Sort.Holds encStr W q 0 (sortN L).toArray→Below w.heap.size wr W→Calls Tryz.prog 36 #[.slice (some ⟨q,0,none⟩) n1 cq] W fun e w'=>∃ v,e= .returned v∧RowS w' v (namesX R [])∧Below w.heap.size W w'):=Lib.hid fun W h hb=>by rw[hn1];exact compact_row h h2 (Nat.lt_of_lt_of_le hq2 hb.size) hL9 h4 (varsX R) hmem
    subst h1;rw[←hn1];clear hmem H h2 h3 h4 hq2 hn1;go_wp2_with (first | (go_at_call 35;((with_reducible refine K1.out.mono ?_);rintro e w1 ⟨rfl,hh,hb⟩;have HH:=Lib.hid hh;have HB:=Lib.hid hb;clear hh hb)) | (go_at_call 36;((with_reducible refine(K2.out _ HH.out HB.out).mono ?_);rintro e w2 ⟨v,rfl,hv,hb2⟩;have HV:=Lib.hid hv;have HB2:=Lib.hid hb2;clear hv hb2)));go_ret;exact⟨_,rfl,HV.out,hbw.out.trans (HB.out.trans HB2.out)⟩
  ·rw[List.concat_eq_append] at H hgk ⊢
   obtain⟨X,Ax,cx⟩:=x;obtain⟨k',n',nm',op',ks'⟩:=X;have a0:=H.out.at 0 _ rfl;have a1:=H.out.at 1 _ rfl;have a2:=H.out.at 2 _ rfl;have a3:=H.out.at 3 _ rfl;have a4:=H.out.at 4 _ rfl;simp only[Ex.kind,Ex.n,Ex.name,Ex.op,Ex.kids,Nat.add_zero] at a0 a1 a2 a3 a4;obtain⟨X,hX⟩:∃ X:ByteArray,X=⟨nm'.toArray⟩:=⟨_,rfl⟩;obtain⟨Y,hY⟩:∃ X:ByteArray,X=⟨op'.toArray⟩:=⟨_,rfl⟩;obtain⟨m',hm'⟩:∃ m,m=ks'.length:=⟨_,rfl⟩;rw[←hX] at a2;rw[←hY] at a3;rw[←hm'] at a4;have HX:=Lib.hid hX;have HY:=Lib.hid hY
   have KC:Hid (∀ w,Calls Tryz.prog 34 #[.string X] w fun e w'=>e= .returned (.string X)∧Below w.heap.size w w'):=Lib.hid fun w=>tclone_any X (by
    have h1:=H.out.len (Ex.mk k' n' nm' op' ks',Ax,cx) (by simp);have h2:=(nmX_kids (k:=k') (n:=n') (nm:=nm') (op:=op') (ks:=ks')).2;rw[←len_data,hX];show nm'.length≤_;simp only at h1;omega) w
   have HM':=Lib.hid hm';clear hX hY hm';rw[List.length_append,List.length_singleton];obtain⟨M,hM⟩:∃ M,M=es'.length:=⟨_,rfl⟩;have HM:=Lib.hid hM;rw[←hM] at a0 a1 a2 a3 a4 ⊢;have HGK:=Lib.hid hgk
   have hL9:L.length≤1000000:=by
    have h1:=H.out.size;have:=HZ.out;rw[HR.out] at h1;omega
   have hM9:M≤1000000:=by
    have h1:=H.out.size;have h2:=sizeXL_len (List.map (fun x:XE=>x.1) es');rw[List.map_append,sizeXL_app,List.length_map] at *;have:=HZ.out;rw[HR.out] at h1;omega
   clear hM hgk;obtain⟨es2,e2,k2,n2⟩:=kids_news (H.out.kids (Ex.mk k' n' nm' op' ks',Ax,cx) (by simp));simp only[Ex.kids] at e2 n2;have hlt:=H.out.row.lt g rfl;have hsz:=H.out.low.size;obtain⟨hcap,_⟩:=own_cap H.out.row;rw[List.length_append,List.length_singleton,←HM.out] at hcap;obtain⟨W1,hW1⟩:∃ W1,W1=wr.alloc (.cells #[.int .i64 k',.int .i64 n',.string X,.string Y,.slice Ax m' cx] 24):=⟨_,rfl⟩;have hB1:Below wr.heap.size wr W1.drew:=by rw[hW1];exact(one_boxX wr _).drew
   have H1:Hid (NmS R w W1.drew g cap (es'++[(Ex.mk k' n' nm' op' ks',Ax,cx)]) u3 L):=Lib.hid (H.out.beyond hB1)
   have HO:Hid (W1.drew.ownsRow w.heap.size 24 5 (.slice (some ⟨g,0,none⟩) M cap) M (flatE es')):=Lib.hid (by
    have:=own_pre H1.out.row (m:=M) (by simp[HM.out]);rw[HM.out,flatE_take] at this;rw[HM.out];exact this)
   have HNW:Hid (m'=0∨∃ ad,Ax=some ad∧∀ j u,(flatE es2)[j]?=some u→W1.drew.cell? (ad.add j)=some u):=Lib.hid (by
    rw[HM'.out]
    rcases n2 with n2 | ⟨ad,q1,q2,q3⟩
    ·exact .inl n2
    ·exact .inr ⟨ad,q1,fun j u hu=>by rw[H1.out.low.cell (by rw[blockX_add];exact q2)];exact q3 j u hu⟩)
   have hl2:(flatE es2).length=m' * 5:=by rw[flatE_len,HM'.out,←e2,List.length_map]
   have HL2:=Lib.hid hl2
   have hm9:m'≤1000000:=by
    have h1:=H.out.size;have h2:=sizeXL_len ks';rw[List.map_append,sizeXL_app,List.map_singleton,sizeXL,sizeX] at h1;have:=HZ.out;rw[HR.out] at h1;rw[HM'.out];omega
   have HE2:=Lib.hid e2;have HK2:=Lib.hid k2
   have hbox:∀ j u,(cells5 (Ex.mk k' n' nm' op' ks') Ax cx)[j]?=some u→W1.drew.cell? ⟨wr.heap.size,j,none⟩=some u:=fun j u hu=>by
    rw[World.cell?_drew,hW1,HX.out,HY.out,HM'.out];exact new_at wr 24 _ j u hu
   have HBX:=Lib.hid hbox;have hs1:W1.drew.heap.size=wr.heap.size+1:=by rw[hW1];simp[World.drew]
   have HS1:=Lib.hid hs1;have HLT:=Lib.hid hlt;have HSZ:=Lib.hid hsz
   have HB0:Hid (∀ w2,W1.drew.grownBy w2 (some g)→w2.cell? ⟨wr.heap.size,0,none⟩=some (.int .i64 k')∧w2.cell? ⟨wr.heap.size,2,none⟩=some (.string X)):=Lib.hid fun w2 hgr=>by
    have hlt1:wr.heap.size<W1.drew.heap.size:=by omega
    have hne:some wr.heap.size≠some g:=fun e=>by injection e;omega
    refine⟨(hgr.cell_far ⟨wr.heap.size,0,none⟩ hlt1 hne).trans (hbox 0 _ rfl),?_⟩;rw[HX.out];exact(hgr.cell_far ⟨wr.heap.size,2,none⟩ hlt1 hne).trans (hbox 2 _ rfl)
   clear e2 k2 n2 hl2 hbox hB1 hlt hsz hs1;go_wp2;refine wp_region_quiet_tail 7 (by kernel_rfl) (by kernel_rfl) ?_;simp only[List.take_succ_cons,List.take_zero,List.drop_succ_cons,List.drop_zero]
   repeat (go_big_quiet_step (fail))
   refine wpQuiet_nil ?_;rw[←hW1];clear hW1 a0 a1 a2 a3 a4;by_cases hk1:k'=1
   ·subst hk1
    go_wp2_with (first | (at_builtin;refine wpList_append_opt rfl (.tmp 21) (.tmp 23) 22 rfl w.heap.size 24 i0 (.agg #[.int .i64 0,.int .i64 0,.string ⟨#[]⟩,.string ⟨#[]⟩,.slice none 0 0]) 5 72 Tryz.underlying22 hi0 hz0 hz1 hz2 rfl (by decide) g M cap (flatE es') rfl HO.out Ax m' cx (flatE es2) rfl HL2.out HNW.out (flatE_one _) (by unfold maxLen;omega) (by omega) H1.out.low.size ?_;intro g' cap' w2 ho hgr hg';have HP:=Lib.hid (H1.out.pop HE2.out HK2.out (by rw[←HM.out];simp only[Ex.kids];rw[←HM'.out];exact ho) hgr hg');obtain⟨b0,b2⟩:=HB0.out _ hgr;have hsz2:=HP.out.1.size;have HG:=Lib.hid hg';clear ho hgr hg') | (go_at_call 34;((with_reducible refine(KC.out _).mono ?_);rintro e w3 ⟨rfl,hb3⟩;have HB3:=Lib.hid hb3;have HN3:=Lib.hid ((below_kept HP.out.2.2.1 hb3).alloc (.cells #[.string X] 9));have hs3:=hb3.size;clear hb3)) | (at_builtin;refine wpList_append_lies _ rfl (.tmp 28) (.tmp 32) 49 rfl w.heap.size 9 j0 (.string ⟨#[]⟩) 1 16 Tryz.underlying49 hj0 hy0 hy1 hy2 rfl (by decide) u3 L.length (L.map strV) rfl HN3.out ⟨w3.heap.size,0,none⟩ 1 1 [.string X] rfl rfl (fun j u hu=>new_cells w3 9 #[.string X] j u hu) (fun u hu=>by rw[List.mem_singleton] at hu;subst hu;rfl) (by decide) (by unfold maxLen;omega) (by omega) (by simp;omega) _ rfl ?_;intro g3 cap3 w4 ho4 hgr4 hat4 hlt4;have HO4:=Lib.hid ho4;have HG4:=Lib.hid hgr4;have HA4:=Lib.hid hat4;clear ho4 hgr4 hat4 hlt4));obtain⟨p1,p2,p3,p4,p5⟩:=HP.out;have HB34:=Lib.hid (HB3.out.trans ((one_boxX w3 (.cells #[.string X] 9)).mono HB3.out.size):Below w2.heap.size w2 (w3.alloc (.cells #[.string X] 9)));have hk3:(w3.alloc (.cells #[.string X] 9)).ownsRow w.heap.size 24 5 (.slice (some ⟨g',0,none⟩) (es'++es2).length cap') (es'++es2).length (flatE (es'++es2)):=below_kept p2 HB34.out;have hgl:=(hk3.lt g' rfl).2;have hu3:∀ k,u3.ownBlock=some k→w.heap.size≤k:=fun k hk=>(HN3.out.lt k hk).1
    have q1:Below w.heap.size w w4:=(p1.trans (HB34.out.mono hsz2)).grown HG4.out (by have:=HB34.out.size;omega) hu3;have q2:=hk3.kept HG4.out (.inr (fun e=>p4 (by rw[←e];rfl)))
    have q4:(Value.slice (some ⟨g3,0,none⟩) (L.length+1) cap3).ownBlock≠some g':=by
     intro e;have e:g3=g':=by injection e
     rcases HA4.out with h | h
     ·exact p4 (by rw[h,e])
     ·rw[e] at h;rw[h] at hgl;exact Nat.lt_irrefl _ hgl
    have hD:=H1.out.done HE2.out (L':=L++[nm']) (W':=w4) (g':=g') (cap':=cap') (v':= .slice (some ⟨g3,0,none⟩) (L.length+1) cap3) (fun y=>by simp[Ex.kind,Ex.name]) (by simp) q1 q2 (by
     have:=HO4.out;rw[HX.out] at this;simpa[strV] using this) q4 p5
    go_roundg (sizeXL ((es'++es2).map (·.1)))
    case measure=>rw[HGK.out];exact hD.2
    case rel=>
     refine⟨es'++es2,g',cap',L++[nm'],?_,rfl,Lib.hid hD.1⟩;rw[List.length_append,←HM.out,HM'.out,←HE2.out];simp
   ·go_wp2_with (at_builtin;refine wpList_append_opt rfl (.tmp 21) (.tmp 23) 22 rfl w.heap.size 24 i0 (.agg #[.int .i64 0,.int .i64 0,.string ⟨#[]⟩,.string ⟨#[]⟩,.slice none 0 0]) 5 72 Tryz.underlying22 hi0 hz0 hz1 hz2 rfl (by decide) g M cap (flatE es') rfl HO.out Ax m' cx (flatE es2) rfl HL2.out HNW.out (flatE_one _) (by unfold maxLen;omega) (by omega) H1.out.low.size ?_;intro g' cap' w2 ho hgr hg';have HP:=Lib.hid (H1.out.pop HE2.out HK2.out (by rw[←HM.out];simp only[Ex.kids];rw[←HM'.out];exact ho) hgr hg');obtain⟨b0,b2⟩:=HB0.out _ hgr;have hsz2:=HP.out.1.size;have HG:=Lib.hid hg';clear ho hgr hg')
    go_roundg (sizeXL ((es'++es2).map (·.1)))
    case measure=>
     obtain⟨p1,p2,p3,p4,p5⟩:=HP.out;rw[HGK.out];exact(H1.out.done HE2.out (L':=L) (fun y=>⟨.inl,fun h=>h.resolve_right (fun e=>hk1 e.1)⟩) (Nat.le_succ _) p1 p2 p3 p4 p5).2
    case rel=>
     obtain⟨p1,p2,p3,p4,p5⟩:=HP.out;refine⟨es'++es2,g',cap',L,?_,rfl,Lib.hid (H1.out.done HE2.out (L':=L) (fun y=>⟨.inl,fun h=>h.resolve_right (fun e=>hk1 e.1)⟩) (Nat.le_succ _) p1 p2 p3 p4 p5).1⟩;rw[List.length_append,←HM.out,HM'.out,←HE2.out];simp
def S9:ByteArray:=⟨#[49,32,43,32,50,32,42,32,40,36,97,32,45,32,52,41,32,125]⟩
def L9:List Tok:=[⟨2,[],1,[],0⟩,⟨4,[43],0,[],2⟩,⟨2,[],2,[],4⟩,⟨4,[42],0,[],6⟩,⟨4,[40],0,[],8⟩,⟨6,[97],0,[],9⟩,⟨4,[45],0,[],12⟩,⟨2,[],4,[],14⟩,⟨4,[41],0,[],15⟩,⟨4,[125],0,[],17⟩]
theorem scan9:scan S9.data.toList=(some L9,0,0):=by
 have b0:behind S9.data.toList 0=0:=by decide
 have h0:tokR (S9.data.toList.drop 0)= .ok ⟨2,[],1,[],0⟩ 1:=by kernel_rfl
 have b1:behind S9.data.toList (0+1)=2:=by decide
 have h1:tokR (S9.data.toList.drop 2)= .ok ⟨4,[43],0,[],0⟩ 1:=by kernel_rfl
 have b2:behind S9.data.toList (2+1)=4:=by decide
 have h2:tokR (S9.data.toList.drop 4)= .ok ⟨2,[],2,[],0⟩ 1:=by kernel_rfl
 have b3:behind S9.data.toList (4+1)=6:=by decide
 have h3:tokR (S9.data.toList.drop 6)= .ok ⟨4,[42],0,[],0⟩ 1:=by kernel_rfl
 have b4:behind S9.data.toList (6+1)=8:=by decide
 have h4:tokR (S9.data.toList.drop 8)= .ok ⟨4,[40],0,[],0⟩ 1:=by kernel_rfl
 have b5:behind S9.data.toList (8+1)=9:=by decide
 have h5:tokR (S9.data.toList.drop 9)= .ok ⟨6,[97],0,[],0⟩ 2:=by kernel_rfl
 have b6:behind S9.data.toList (9+2)=12:=by decide
 have h6:tokR (S9.data.toList.drop 12)= .ok ⟨4,[45],0,[],0⟩ 1:=by kernel_rfl
 have b7:behind S9.data.toList (12+1)=14:=by decide
 have h7:tokR (S9.data.toList.drop 14)= .ok ⟨2,[],4,[],0⟩ 1:=by kernel_rfl
 have b8:behind S9.data.toList (14+1)=15:=by decide
 have h8:tokR (S9.data.toList.drop 15)= .ok ⟨4,[41],0,[],0⟩ 1:=by kernel_rfl
 have b9:behind S9.data.toList (15+1)=17:=by decide
 have h9:tokR (S9.data.toList.drop 17)= .ok ⟨4,[125],0,[],0⟩ 1:=by kernel_rfl
 have b10:behind S9.data.toList (17+1)=18:=by decide
 unfold scan;rw[if_neg (by decide),b0,goT_ok _ (by decide) h0,b1,goT_ok _ (by decide) h1,b2,goT_ok _ (by decide) h2,b3,goT_ok _ (by decide) h3,b4,goT_ok _ (by decide) h4,b5,goT_ok _ (by decide) h5,b6,goT_ok _ (by decide) h6,b7,goT_ok _ (by decide) h7,b8,goT_ok _ (by decide) h8,b9,goT_ok _ (by decide) h9,b10,goT_end _ (by decide)]
 rfl
def x9:Ex:=exBin [43] (exNum 1) (exBin [42] (exNum 2) (exBin [45] (exVar [97]) (exNum 4)))
theorem read9:RdE L9 (.some 1) 0 0 (.ok x9 9):=by
 have y1:RdE L9 (.some 6) 7 4 (.ok (exNum 4) 8):= .some (.num rfl rfl) (.stop (by decide));have y2:RdE L9 (.some 1) 5 3 (.ok (exBin [45] (exVar [97]) (exNum 4)) 8):= .some (.var rfl rfl) (.op (by decide) (by decide) y1 (.stop (by decide)));have y3:RdE L9 (.some 7) 4 2 (.ok (exBin [45] (exVar [97]) (exNum 4)) 9):= .some (.par (by decide) (by decide) y2 (by decide)) (.stop (by decide));have y4:RdE L9 (.some 6) 2 1 (.ok (exBin [42] (exNum 2) (exBin [45] (exVar [97]) (exNum 4))) 9):= .some (.num rfl rfl) (.op (by decide) (by decide) y3 (.stop (by decide)));exact .some (.num rfl rfl) (.op (by decide) (by decide) y4 (.stop (by decide)))
theorem itoa2:Lib.itoa 2=[50]:=by
 unfold Lib.itoa;rw[if_neg (by decide)];exact dec_small (by decide)
theorem itoa4:Lib.itoa 4=[52]:=by
 unfold Lib.itoa;rw[if_neg (by decide)];exact dec_small (by decide)
theorem tok9:tokP x9=[tNum 1,tSign [43],tNum 2,tSign [42],tSign [40],tVar [97],tSign [45],tNum 4,tSign [41]]:=by kernel_rfl
theorem join9:joinB (tokP x9)=⟨#[49,32,43,32,50,32,42,32,40,32,36,97,32,45,32,52,32,41]⟩∧joinE (tokP x9)=0:=by
 rw[tok9]
 have hj:joinT [tNum 1,tSign [43],tNum 2,tSign [42],tSign [40],tVar [97],tSign [45],tNum 4,tSign [41]]=[49,32,43,32,50,32,42,32,40,32,36,97,32,45,32,52,32,41]:=by
  show Lib.itoa 1++((32::[43])++((32::Lib.itoa 2)++((32::[42])++((32::[40])++((32::36::[97])++((32::[45])++((32::Lib.itoa 4)++((32::[41])++[]))))))))=_;rw[itoa1,itoa2,itoa4];rfl
 have ho:[tNum 1,tSign [43],tNum 2,tSign [42],tSign [40],tVar [97],tSign [45],tNum 4,tSign [41]].all okT=true:=by decide
 unfold joinB joinE;rw[hj,ho,if_pos ⟨rfl,by decide⟩,if_pos rfl,if_neg (by decide)];exact⟨rfl,rfl⟩
theorem may9:mayX x9 0=true:=by decide
theorem names9:(namesX x9 []).length=1:=by decide
theorem same9:eqB x9 x9=true:=by simp[eqB]
theorem fitl9:FitL L9:=by
 rcases scan_cases S9.data.toList with ⟨q,e,h,_⟩ | ⟨out,h,h1,h2,_⟩
 ·rw[scan9] at h;cases h
 ·rw[scan9] at h
  have e:L9=out:=by injection h with h _;injection h
  subst e;exact fitl_read h1 h2 (by decide)
theorem num9:NumX x9:=RdE.nums (by unfold L9;intro t ht;simp only[List.mem_cons,List.not_mem_nil,or_false] at ht;rcases ht with rfl | rfl | rfl | rfl | rfl | rfl | rfl | rfl | rfl | rfl <;> exact⟨by decide,by decide⟩) read9 x9 9 rfl trivial
theorem awakeX_any (w:World) (hG:Given w):Calls Tryz.prog 6 #[] w fun e w'=>e= .returned (.bool true)∧Below w.heap.size w w':=by
 have HG:=Lib.hid hG;obtain⟨r,hr⟩:∃ r,r=x9:=⟨_,rfl⟩;have K1:Hid (Calls Tryz.prog 18 #[.string ⟨#[49,32,43,32,50,32,42,32,40,36,97,32,45,32,52,41,32,125]⟩] w fun e w'=>∃ A c,e= .returned (.tuple #[.slice A 10 c,.int .i64 0,.int .i64 0])∧RdT w'.heap.size w' A 10 L9∧Below w.heap.size w w'):=Lib.hid (rscan_read S9 (by decide) (some L9) 0 0 L9 rfl scan9 w);have K2:Hid (∀ A c W,RdT W.heap.size W A 10 L9→Below w.heap.size w W→Calls Tryz.prog 15 #[.slice A 10 c,.int .i64 0] W fun e w'=>(∃ A c,e= .returned (.tuple #[.agg #[.int .i64 r.kind,.int .i64 r.n,.string ⟨r.name.toArray⟩,.string ⟨r.op.toArray⟩,.slice A r.kids.length c],.int .i64 9,.int .i64 0])∧KidsX (LtX w'.heap.size) w' A r)∧Below W.heap.size W w'):=Lib.hid fun A c W h1 h2=>(parseC_any A 10 c L9 0 W h1 fitl9 (hG.below h2) (by decide) (.ok x9 9) read9).mono fun e w' h=>by rw[hr];exact⟨h.2,h.1⟩
 have K3:Hid (∀ A c W,KidsX (LtX W.heap.size) W A r→Below w.heap.size w W→Calls Tryz.prog 9 #[.agg #[.int .i64 r.kind,.int .i64 r.n,.string ⟨r.name.toArray⟩,.string ⟨r.op.toArray⟩,.slice A r.kids.length c]] W fun e w'=>e= .returned (.tuple #[.string ⟨#[49,32,43,32,50,32,42,32,40,32,36,97,32,45,32,52,32,41]⟩,.int .i64 0])∧Below W.heap.size W w'):=Lib.hid fun A c W h1 h2=>by
  have:=cprint_yes r A c W h1 (by rw[hr];decide) (by rw[hr];decide) (by rw[hr];exact may9) (by rw[hr];exact num9) (hG.below h2);rw[hr,join9.1,join9.2,valX_eq] at this;rw[hr];exact this
 have K4:Hid (∀ A c W,KidsX (LtX W.heap.size) W A r→Calls Tryz.prog 19 #[.agg #[.int .i64 r.kind,.int .i64 r.n,.string ⟨r.name.toArray⟩,.string ⟨r.op.toArray⟩,.slice A r.kids.length c]] W fun e w'=>(∃ A c,e= .returned (.slice A 1 c))∧Below W.heap.size W w'):=Lib.hid fun A c W h1=>by
  have:=cnames_any r A c W h1 (by rw[hr];decide) (by rw[hr];decide);rw[valX_eq] at this;refine this.mono ?_;rintro e w' ⟨v,rfl,⟨A',c',rfl,_⟩,hb⟩;exact⟨⟨A',c',by rw[hr,names9]⟩,hb⟩
 have K5:Hid (∀ A c W,KidsX (LtX W.heap.size) W A r→Calls Tryz.prog 21 #[.agg #[.int .i64 r.kind,.int .i64 r.n,.string ⟨r.name.toArray⟩,.string ⟨r.op.toArray⟩,.slice A r.kids.length c],.agg #[.int .i64 r.kind,.int .i64 r.n,.string ⟨r.name.toArray⟩,.string ⟨r.op.toArray⟩,.slice A r.kids.length c]] W fun e w'=>e= .returned (.bool true)∧Below W.heap.size W w'):=Lib.hid fun A c W h1=>by
  have:=csame_any r r A A c c W h1 h1 (by rw[hr];decide) (by rw[hr];decide);rw[show eqB r r=true by rw[hr];exact same9,valX_eq] at this;exact this
 clear hG hr;go_enter Tryz.func6,Tryz.ntmps6
 go_wp2_with (first
  | (go_at_call 18;go_must ((with_reducible refine K1.out.mono ?_);rintro e w1 ⟨A1,c1,rfl,hr1,hb1⟩;have R1:=Lib.hid hr1;have HB1:=Lib.hid hb1;clear hr1 hb1))
  | (go_at_call 15;go_must ((with_reducible refine(K2.out _ _ _ R1.out HB1.out).mono ?_);rintro e w2 ⟨⟨A2,c2,rfl,hk2⟩,hb2⟩;have HB2:=Lib.hid (HB1.out.trans (hb2.mono HB1.out.size));have HK2:Hid (KidsX (LtX (w2.alloc (objX r A2 c2)).heap.size) (w2.alloc (objX r A2 c2)) A2 r):=Lib.hid (hk2.next (one_boxX w2 _));have HB3:Hid (Below w.heap.size w (w2.alloc (objX r A2 c2))):=Lib.hid (HB2.out.trans ((one_boxX w2 _).mono HB2.out.size));obtain⟨d0,d1,d2,d3,d4,_⟩:=Box5.new w2 24 (.int .i64 r.kind) (.int .i64 r.n) (.string ⟨r.name.toArray⟩) (.string ⟨r.op.toArray⟩) (.slice A2 r.kids.length c2);clear hk2 hb2))
  | (go_at_call 9;go_must ((with_reducible refine(K3.out _ _ _ HK2.out HB3.out).mono ?_);rintro e w3 ⟨rfl,hb3⟩;have HK3:=Lib.hid (HK2.out.next hb3);have HB4:=Lib.hid (HB3.out.trans (hb3.mono HB3.out.size));clear d0 d1 d2 d3 d4;obtain⟨d0,d1,d2,d3,d4,_⟩:=(Box5.new w2 24 (.int .i64 r.kind) (.int .i64 r.n) (.string ⟨r.name.toArray⟩) (.string ⟨r.op.toArray⟩) (.slice A2 r.kids.length c2)).low hb3;have HX3:=Lib.hid ((Box5.new w2 24 (.int .i64 r.kind) (.int .i64 r.n) (.string ⟨r.name.toArray⟩) (.string ⟨r.op.toArray⟩) (.slice A2 r.kids.length c2)).low hb3);clear hb3))
  | (go_at_call 19;go_must ((with_reducible refine(K4.out _ _ _ HK3.out).mono ?_);rintro e w4 ⟨⟨A4,c4,rfl⟩,hb4⟩;have HK4:=Lib.hid (HK3.out.next hb4);have HB5:=Lib.hid (HB4.out.trans (hb4.mono HB4.out.size));clear d0 d1 d2 d3 d4;obtain⟨d0,d1,d2,d3,d4,_⟩:=HX3.out.low hb4;clear hb4))
  | (go_at_call 21;go_must ((with_reducible refine(K5.out _ _ _ HK4.out).mono ?_);rintro e w5 ⟨rfl,hb5⟩;have HB6:=Lib.hid (HB5.out.trans (hb5.mono HB5.out.size));clear hb5)))
 go_ret;exact⟨rfl,HB6.out⟩
abbrev BoolX (f:Nat) (args:Array Value) (v:Bool) (w:World):Prop:=∀ W,Below w.heap.size w W→Calls Tryz.prog f args W fun e w'=>e= .returned (.bool v)∧Below W.heap.size W w'
theorem BoolX.bw {f:Nat} {args:Array Value} {v:Bool} {w:World} (h:BoolX f args v w) {W:World} (hb:Below w.heap.size w W) (n:Bw W):Calls Tryz.prog f args n.at fun e w''=>e= .returned (.bool v)∧∃ m:Bw W,w''=m.at:=
 bw_calls (h n.at (hb.trans (n.2.mono hb.size)))
theorem bstepX {a b c:World} (h:Below a.heap.size a b) (k:Below b.heap.size b c):Below a.heap.size a c:=h.trans (k.mono h.size)
abbrev aggX (r:Ex) (A:Option Addr) (c:Nat):Value:= .agg #[.int .i64 r.kind,.int .i64 r.n,.string ⟨r.name.toArray⟩,.string ⟨r.op.toArray⟩,.slice A r.kids.length c]
theorem rsame_cX (x y:Ex) (A B:Option Addr) (c d:Nat) (w:World) (hk:KidsX (LtX w.heap.size) w A x) (hk2:KidsX (LtX w.heap.size) w B y) (hx:sizeX x≤1000000) (hy:sizeX y≤1000000):BoolX 17 #[aggX x A c,aggX y B d] (eqB x y) w:=fun W hb=>by
 have:=rsameX_any x y A B c d W (hk.next hb) (hk2.next hb) hx hy;rw[valX_eq,valX_eq] at this;exact this
theorem csame_cX (x y:Ex) (A B:Option Addr) (c d:Nat) (w:World) (hk:KidsX (LtX w.heap.size) w A x) (hk2:KidsX (LtX w.heap.size) w B y) (hx:sizeX x≤1000000) (hy:sizeX y≤1000000):BoolX 21 #[aggX x A c,aggX y B d] (eqB x y) w:=fun W hb=>by
 have:=csame_any x y A B c d W (hk.next hb) (hk2.next hb) hx hy;rw[valX_eq,valX_eq] at this;exact this
theorem eqB_self (x:Ex):eqB x x=true:=by simp[eqB]
theorem scan_fit (s:ByteArray) (hs:¬ 150<s.size):∃ o q x ts,scan s.data.toList=(o,q,x)∧o.getD []=ts∧FitL ts∧ts.length≤150∧(∀ t∈ts,t.word.length≤200)∧(∀ t∈ts,okN t.n):=by
 have hl:s.data.toList.length≤150:=by rw[len_data];omega
 rcases scan_cases s.data.toList with ⟨q,e,h,_⟩ | ⟨out,h,h1,h2,_⟩
 ·exact⟨none,q,e,[],h,rfl,fitl_read (s:=[]) (by simp) (by simp) (by simp),by simp,by simp,by simp⟩
 ·exact⟨some out,0,0,out,h,rfl,fitl_read h1 h2 (by omega),by omega,fun t ht=>by have:=(h1 t ht).word;omega,fun t ht=>(fit_read (h1 t ht) (by omega)).n⟩
theorem rmay_cX (x:Ex) (A:Option Addr) (c:Nat) (w:World) (hk:KidsX (LtX w.heap.size) w A x) (hn:nmX x≤1000000):BoolX 10 #[aggX x A c,.int .i64 0] (mayX x 0) w:=fun W hb=>by
 have:=rmayX_any x A c 0 W (hk.next hb) (by omega) hn;rw[valX_eq] at this;exact this
theorem cmay_cX (x:Ex) (A:Option Addr) (c:Nat) (w:World) (hk:KidsX (LtX w.heap.size) w A x) (hn:nmX x≤1000000) (hs:sizeX x≤1000000):BoolX 11 #[aggX x A c] (mayX x 0) w:=fun W hb=>by
 have:=cmay_any x A c W (hk.next hb) hn hs;rw[valX_eq] at this;exact this
def ParC (f:Nat) (at_:Int) (ts:List Tok) (r:Rs):Prop:=∀ A c W,RdT W.heap.size W A ts.length ts→Given W→Calls Tryz.prog f #[.slice A ts.length c,.int .i64 at_] W (PostPX W r)
theorem eany_ok (s:ByteArray) (hs:¬ 150<s.size) (at_:Int) (o:Option (List Tok)) (q:Nat) (x0:Int) (ts:List Tok) (h:scan s.data.toList=(o,q,x0)) (ho:o.getD []=ts) (y:Ex) (j:Nat)
  (K1:ParC 15 at_ ts (.ok y j)) (K2:ParC 16 at_ ts (.ok y j)) (hy:sizeX y≤1000000) (hyn:nmX y≤1000000) (w:World) (hG:Given w):
  Calls Tryz.prog 4 #[.string s,.int .i64 at_] w fun e w'=>e= .returned (.bool true)∧Below w.heap.size w w':=by
 have HG:=Lib.hid hG;have KA:=Lib.hid (awakeX_any w hG);have KS:=Lib.hid fun w=>rscan_read s (by omega) o q x0 ts ho h w
 have KE:Hid (∀ A B c d W,KidsX (LtX W.heap.size) W A y→KidsX (LtX W.heap.size) W B y→BoolX 17 #[aggX y A c,aggX y B d] true W):=Lib.hid fun A B c d W h1 h2=>by
  have:=rsame_cX y y A B c d W h1 h2 hy hy;rw[eqB_self] at this;exact this
 have KR:Hid (∀ A c W,KidsX (LtX W.heap.size) W A y→BoolX 10 #[aggX y A c,.int .i64 0] (mayX y 0) W):=Lib.hid fun A c W h1=>rmay_cX y A c W h1 hyn
 have KM:Hid (∀ A c W,KidsX (LtX W.heap.size) W A y→BoolX 11 #[aggX y A c] (mayX y 0) W):=Lib.hid fun A c W h1=>cmay_cX y A c W h1 hyn hy
 generalize mayX y 0=v at KR KM;unfold ParC at K1 K2;obtain⟨n,hn⟩:∃ n,n=ts.length:=⟨_,rfl⟩;unfold ReadT at KS;rw[←hn] at K1 K2 KS;have K1:Hid (∀ A c W,RdT W.heap.size W A n ts→Given W→Calls Tryz.prog 15 #[.slice A n c,.int .i64 at_] W fun e w'=>(∃ A c,e= .returned (.tuple #[aggX y A c,.int .i64 j,.int .i64 0])∧KidsX (LtX w'.heap.size) w' A y)∧Below W.heap.size W w'):=Lib.hid fun A c W h1 h2=>(K1 A c W h1 h2).mono fun e w' h=>⟨h.2,h.1⟩
 have K2:Hid (∀ A c W,RdT W.heap.size W A n ts→Given W→Calls Tryz.prog 16 #[.slice A n c,.int .i64 at_] W fun e w'=>(∃ A c,e= .returned (.tuple #[aggX y A c,.int .i64 j,.int .i64 0])∧KidsX (LtX w'.heap.size) w' A y)∧Below W.heap.size W w'):=Lib.hid fun A c W h1 h2=>(K2 A c W h1 h2).mono fun e w' h=>⟨h.2,h.1⟩
 clear h ho hy hyn hG hn;go_enter Tryz.func4,Tryz.ntmps4
 go_wp2_with (first
  | (go_at_call 6;go_must ((with_reducible refine(KA.out).mono ?_);rintro e w0 ⟨rfl,hb0⟩;have B0:=Lib.hid hb0;clear hb0))
  | (go_at_call 18;go_must ((with_reducible refine(KS.out _).mono ?_);rintro e w1 ⟨A,c,rfl,hr1,hb1⟩;have R1:=Lib.hid hr1;have B1:=Lib.hid (bstepX B0.out hb1);clear hr1 hb1))
  | (go_at_call 15;go_must ((with_reducible refine(K1.out _ _ _ R1.out (HG.out.below B1.out)).mono ?_);rintro e w2 ⟨⟨A2,c2,rfl,hk2⟩,hb2⟩;have B2:=Lib.hid (bstepX (bstepX B1.out hb2) (one_boxX w2 (objX y A2 c2)));have R2:=Lib.hid ((R1.out.next hb2).next (one_boxX w2 (objX y A2 c2)));have HK2:=Lib.hid (hk2.next (one_boxX w2 (objX y A2 c2)));have X2:=Lib.hid (Box5.new w2 24 (.int .i64 y.kind) (.int .i64 y.n) (.string ⟨y.name.toArray⟩) (.string ⟨y.op.toArray⟩) (.slice A2 y.kids.length c2));clear hk2 hb2))
  | (go_at_call 16;go_must ((with_reducible refine(K2.out _ _ _ R2.out (HG.out.below B2.out)).mono ?_);rintro e w3 ⟨⟨A3,c3,rfl,hk3⟩,hb3⟩;have B3:=Lib.hid (bstepX (bstepX B2.out hb3) (one_boxX w3 (objX y A3 c3)));have HK3:=Lib.hid (hk3.next (one_boxX w3 (objX y A3 c3)));have HK4:=Lib.hid ((HK2.out.next hb3).next (one_boxX w3 (objX y A3 c3)));have X3:=Lib.hid (Box5.new w3 24 (.int .i64 y.kind) (.int .i64 y.n) (.string ⟨y.name.toArray⟩) (.string ⟨y.op.toArray⟩) (.slice A3 y.kids.length c3));have X4:=Lib.hid ((X2.out.low hb3).low (one_boxX w3 (objX y A3 c3)));clear hk3 hb3)))
 obtain⟨W4,hW4⟩:∃ W4,W4=w3.alloc (objX y A3 c3):=⟨_,rfl⟩;have KE1:=Lib.hid (KE.out A2 A3 c2 c3 _ HK4.out HK3.out);have KR1:=Lib.hid (KR.out A2 c2 _ HK4.out);have KM1:=Lib.hid (KM.out A2 c2 _ HK4.out);rw[←hW4] at B3 HK3 HK4 X3 X4 KE1 KR1 KM1 ⊢;clear hW4 KE KR KM;obtain⟨x0,x1,x2,x3,x4,_⟩:=X4.out;obtain⟨y0,y1,y2,y3,y4,_⟩:=X3.out;have hne:=bw_some W4;have p0:=bw_cell x0;have p1:=bw_cell x1;have p2:=bw_cell x2;have p3:=bw_cell x3;have p4:=bw_cell x4;have q0:=bw_cell y0;have q1:=bw_cell y1;have q2:=bw_cell y2;have q3:=bw_cell y3;have q4:=bw_cell y4;refine wp_region_below (by kernel_rfl) (by kernel_rfl) ?_
 repeat (go_big_quiet_step (first | (go_at_call 17;with_reducible exact KE1.out.bw (Below.refl _ _) _) | (go_at_call 10;with_reducible exact KR1.out.bw (Below.refl _ _) _) | (go_at_call 11;with_reducible exact KM1.out.bw (Below.refl _ _) _)))
 refine wpQuiet_nil ?_;intro w4 hw4;obtain⟨m4,rfl⟩:=hw4;have HB4:=Lib.hid (bstepX B3.out m4.2);go_wp2;go_ret;exact⟨rfl,HB4.out⟩
theorem eany_bad (s:ByteArray) (hs:¬ 150<s.size) (at_:Int) (o:Option (List Tok)) (q:Nat) (x0:Int) (ts:List Tok) (h:scan s.data.toList=(o,q,x0)) (ho:o.getD []=ts) (j er:Nat) (he:er≠0)
  (K1:ParC 15 at_ ts (.bad j er)) (K2:ParC 16 at_ ts (.bad j er)) (w:World) (hG:Given w):
  Calls Tryz.prog 4 #[.string s,.int .i64 at_] w fun e w'=>e= .returned (.bool true)∧Below w.heap.size w w':=by
 have HG:=Lib.hid hG;have KA:=Lib.hid (awakeX_any w hG);have KS:=Lib.hid fun w=>rscan_read s (by omega) o q x0 ts ho h w
 obtain⟨y,hy⟩:∃ y,y=exNum 0:=⟨_,rfl⟩;have HY:Hid (aggX y none 0= .agg #[.int .i64 0,.int .i64 0,.string ⟨#[]⟩,.string ⟨#[]⟩,.slice none 0 0]):=Lib.hid (by rw[hy];rfl)
 have KE:Hid (∀ W,BoolX 17 #[.agg #[.int .i64 0,.int .i64 0,.string ⟨#[]⟩,.string ⟨#[]⟩,.slice none 0 0],.agg #[.int .i64 0,.int .i64 0,.string ⟨#[]⟩,.string ⟨#[]⟩,.slice none 0 0]] true W):=Lib.hid fun W=>by
  have:=rsame_cX y y none none 0 0 W (by rw[hy];exact KidsX.leaf _ _ _ _ _ _ _) (by rw[hy];exact KidsX.leaf _ _ _ _ _ _ _) (by rw[hy];decide) (by rw[hy];decide);rw[eqB_self,HY.out] at this;exact this
 clear hy HY y;have he1:((er:Int) != 0)=true:=by simp;omega
 have he2:(er != 0)=true:=by simp;omega
 unfold ParC at K1 K2;obtain⟨n,hn⟩:∃ n,n=ts.length:=⟨_,rfl⟩;unfold ReadT at KS;rw[←hn] at K1 K2 KS;have K1:Hid (∀ A c W,RdT W.heap.size W A n ts→Given W→Calls Tryz.prog 15 #[.slice A n c,.int .i64 at_] W fun e w'=>e= .returned (.tuple #[.agg #[.int .i64 0,.int .i64 0,.string ⟨#[]⟩,.string ⟨#[]⟩,.slice none 0 0],.int .i64 j,.int .i64 er])∧Below W.heap.size W w'):=Lib.hid fun A c W h1 h2=>(K1 A c W h1 h2).mono fun e w' h=>⟨h.2,h.1⟩
 have K2:Hid (∀ A c W,RdT W.heap.size W A n ts→Given W→Calls Tryz.prog 16 #[.slice A n c,.int .i64 at_] W fun e w'=>e= .returned (.tuple #[.agg #[.int .i64 0,.int .i64 0,.string ⟨#[]⟩,.string ⟨#[]⟩,.slice none 0 0],.int .i64 j,.int .i64 er])∧Below W.heap.size W w'):=Lib.hid fun A c W h1 h2=>(K2 A c W h1 h2).mono fun e w' h=>⟨h.2,h.1⟩
 clear h ho hG hn he;go_enter Tryz.func4,Tryz.ntmps4
 go_wp2_with (first
  | (go_at_call 6;go_must ((with_reducible refine(KA.out).mono ?_);rintro e w0 ⟨rfl,hb0⟩;have B0:=Lib.hid hb0;clear hb0))
  | (go_at_call 18;go_must ((with_reducible refine(KS.out _).mono ?_);rintro e w1 ⟨A,c,rfl,hr1,hb1⟩;have R1:=Lib.hid hr1;have B1:=Lib.hid (bstepX B0.out hb1);clear hr1 hb1))
  | (go_at_call 15;go_must ((with_reducible refine(K1.out _ _ _ R1.out (HG.out.below B1.out)).mono ?_);rintro e w2 ⟨rfl,hb2⟩;have B2:=Lib.hid (bstepX (bstepX B1.out hb2) (one_boxX w2 zeroX));have R2:=Lib.hid ((R1.out.next hb2).next (one_boxX w2 zeroX));have X2:=Lib.hid (Box5.new w2 24 (.int .i64 0) (.int .i64 0) (.string ⟨#[]⟩) (.string ⟨#[]⟩) (.slice none 0 0));clear hb2))
  | (go_at_call 16;go_must ((with_reducible refine(K2.out _ _ _ R2.out (HG.out.below B2.out)).mono ?_);rintro e w3 ⟨rfl,hb3⟩;have B3:=Lib.hid (bstepX (bstepX B2.out hb3) (one_boxX w3 zeroX));have X3:=Lib.hid (Box5.new w3 24 (.int .i64 0) (.int .i64 0) (.string ⟨#[]⟩) (.string ⟨#[]⟩) (.slice none 0 0));have X4:=Lib.hid ((X2.out.low hb3).low (one_boxX w3 zeroX));clear hb3)))
 obtain⟨W4,hW4⟩:∃ W4,W4=w3.alloc zeroX:=⟨_,rfl⟩;have KE1:=Lib.hid (KE.out W4);rw[←hW4] at B3 X3 X4 ⊢;clear hW4 KE;obtain⟨x0,x1,x2,x3,x4,_⟩:=X4.out;obtain⟨y0,y1,y2,y3,y4,_⟩:=X3.out;have hne:=bw_some W4;have p0:=bw_cell x0;have p1:=bw_cell x1;have p2:=bw_cell x2;have p3:=bw_cell x3;have p4:=bw_cell x4;have q0:=bw_cell y0;have q1:=bw_cell y1;have q2:=bw_cell y2;have q3:=bw_cell y3;have q4:=bw_cell y4;refine wp_region_below (by kernel_rfl) (by kernel_rfl) ?_
 repeat (go_big_quiet_step ((go_at_call 17;with_reducible exact KE1.out.bw (Below.refl _ _) _)))
 refine wpQuiet_nil ?_;intro w4 hw4;obtain⟨m4,rfl⟩:=hw4;have HB4:=Lib.hid (bstepX B3.out m4.2);go_wp2;go_ret;exact⟨rfl,HB4.out⟩
theorem eany_long (s:ByteArray) (hs:150<s.size) (at_:Int) (w:World) (hG:Given w):
  Calls Tryz.prog 4 #[.string s,.int .i64 at_] w fun e w'=>e= .returned (.bool true)∧Below w.heap.size w w':=by
 have KA:=Lib.hid (awakeX_any w hG);clear hG;go_enter Tryz.func4,Tryz.ntmps4;go_wp2_with (go_at_call 6;((with_reducible refine(KA.out).mono ?_));rintro e w0 ⟨rfl,hb0⟩);go_ret;exact⟨rfl,hb0⟩
theorem walk_eany (s:ByteArray) (at_:Int) (w:World) (hG:Given w):Calls Tryz.prog 4 #[.string s,.int .i64 at_] w fun e w'=>e= .returned (.bool true)∧Below w.heap.size w w':=by
 by_cases hs:150<s.size
 ·exact eany_long s hs at_ w hG
 ·obtain⟨o,q,x,ts,h,ho,hf,hl,hwd,_⟩:=scan_fit s hs
  by_cases hat:at_<0∨(ts.length:Int)<at_
  ·exact eany_bad s hs at_ o q x ts h ho 0 1 (by decide) (fun A c W _ _=>parse_odd A _ c at_ W hat) (fun A c W _ _=>rparse_odd A _ c at_ W hat) w hG
  ·obtain⟨k,rfl⟩:∃ k:Nat,at_=k:=⟨at_.toNat,by omega⟩
   have hk:k≤ts.length:=by omega
   obtain⟨r,hr⟩:=read_some ts k hk;have K1:ParC 15 k ts r:=fun A c W h1 h2=>parseC_any A _ c ts k W h1 hf h2 hk r hr
   have K2:ParC 16 k ts r:=fun A c W h1 _=>parseR_any A _ c ts k W h1 (by omega) hk r hr
   have hw:=hr.within (Nat.le_refl 1) hk
   cases r with
   | ok y j=>
     have hsm:=RdE.small hwd (Nat.le_refl 1) hk hr;exact eany_ok s hs k o q x ts h ho y j K1 K2 (by omega) (by omega) w hG
   | bad j er=>
     exact eany_bad s hs k o q x ts h ho j er (by have:=hw.2.2;omega) K1 K2 w hG
end Go.Proofs.YthghbdeaenjckaaGreatDoor
