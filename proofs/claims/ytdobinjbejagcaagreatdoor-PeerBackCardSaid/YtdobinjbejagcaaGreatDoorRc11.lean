import Derived.Test.YtdobinjbejagcaaGreatDoorRc8
import Derived.Test.YtdobinjbejagcaaGreatDoorPq6
namespace Go.Proofs.YtdobinjbejagcaaGreatDoor
open Go Go.RowKit
set_option maxRecDepth 100000
set_option maxHeartbeats 8000000
section
abbrev nilV:Value:= .slice none 0 0
abbrev zeroP:List Value:=[.string ⟨#[]⟩,.bool false,.slice none 0 0]
section
variable {b:Nat} {w w' W W':World} {A:Option Addr} {n c:Nat} {l:List Tok} {vN:Value} {ns:List Bs} {k o k' o':Nat} {sf sf':Sf} {ms ms':List Bs} {vM vM' vM0:Value}
theorem two_rd {α β:Type} {R1:Rp α} {R2:Rp β} {F:α→Nat→Rp β} {x:α} {z:β} (hx:RsV R1 x) (h2:R2=gateR R1.err R1.at (F x R1.at)) (h:RdC b w A n c l vN ns R2.at R2.err ((sf++R1.sfs)++R2.sfs) ms vM∧RsV R2 z):RdC b w A n c l vN ns (R1.then F).at (R1.then F).err (sf++(R1.then F).sfs) ms vM∧RsV (R1.then F) z:=
 ⟨seq_rd hx h2 h.1,(seq_at hx h2).2.2.2 z h.2⟩
theorem fin_rd {α β:Type} {R:Rp α} {x:α} (f:α→β) (hx:RsV R x) (h:RdC b w A n c l vN ns R.at R.err (sf++R.sfs) ms vM):RdC b w A n c l vN ns (R.then fun x j=>Rp.ok (f x) j [] []).at (R.then fun x j=>Rp.ok (f x) j [] []).err (sf++(R.then fun x j=>Rp.ok (f x) j [] []).sfs) ms vM∧RsV (R.then fun x j=>Rp.ok (f x) j [] []) (f x):=by
 have:=fin_step f hx (w:=w) (w':=w) ⟨grnP_below (Below.refl _ _),h⟩;exact⟨this.1.2,this.2⟩
structure WentC (b:Nat) (w:World) (vM0 vM:Value) (W:World):Prop where
 far:FarP b vM0 nilV w W
 fM:FreshP w vM0 vM
theorem WentC.of (h:w.grownBy W (some b)):WentC b w vM vM W:=⟨.of h,.refl _ _⟩
theorem WentC.trans (h:WentC b w vM0 vM W) (h':WentC b W vM vM' W'):WentC b w vM0 vM' W':=⟨h.far.trans h'.far h.fM (.refl _ _),h.fM.trans h'.fM h.far.size⟩
theorem strsP_app (a c:List Bs):strsP (a++c)=strsP a++strsP c:=by unfold strsP;exact List.map_append
theorem RdC.grew (h:RdC b W A n c l vN ns k o sf ms vM) {xs:List Bs} {o1:Obj} {s:Bs} {v2:Value} (hx:(o=0→xs=ms)∧xs.length≤ms.length+o) (hown:W'.ownsRow (b+1) 9 1 v2 (xs.length+1) (strsP xs++[.string ⟨s.toArray⟩])) (hg:(W.alloc o1).grownBy W' vM.ownBlock) (hat:∀ g,v2.ownBlock=some g→vM.ownBlock=some g∨g=(W.alloc o1).heap.size):
  RdC b (W'.setCell ⟨b,4,none⟩ v2) A n c l vN ns k o sf (ms++[s]) v2∧WentC b W vM v2 (W'.setCell ⟨b,4,none⟩ v2):=by
 obtain⟨a1,a2,a3,a4,a5⟩:=far_one hg;have hbl:=h.lt;have hab:=h.own.above;have hbn:vM.ownBlock≠some b:=fun e=>absurd (hab _ e).1 (Nat.lt_irrefl _)
 have hb5:=a5 b hbl hbn;have hne:v2.ownBlock≠some b:=fun e=>by have:=hown.lt _ e;omega
 have hs:=(one_boxP W o1).size;have hsz:W.heap.size≤(W'.setCell ⟨b,4,none⟩ v2).heap.size:=by simpa[World.setCell] using a4
 have hfar:FarP b vM nilV W (W'.setCell ⟨b,4,none⟩ v2):=⟨a1,a2,a3,hsz,fun i hi hb hn _=>(Below.heap_setCell _ _ _ _ (by show i≠b;omega)).trans (a5 i hi hn)⟩;have hB:Below b W (W'.setCell ⟨b,4,none⟩ v2):=⟨a1,a2,a3,hsz,fun i hi=>hfar.block i (by omega) (by omega) (fun e=>by have:=(hab i e).1;omega) (by simp[Value.ownBlock])⟩;have cel:∀ j,W'.cell? ⟨b,j,none⟩=W.cell? ⟨b,j,none⟩:=fun j=>World.cell?_of_block (a:=⟨b,j,none⟩) hb5
 have ne:∀ j,j≠4→(W'.setCell ⟨b,4,none⟩ v2).cell? ⟨b,j,none⟩=W.cell? ⟨b,j,none⟩:=fun j hj=>(setP_ne _ _ _ _ _ (by omega)).trans (cel j)
 obtain⟨e,p,y5,y6,y7⟩:=h.ey;refine⟨⟨(ne 0 (by decide)).trans h.c0,(ne 1 (by decide)).trans h.c1,(ne 2 (by decide)).trans h.c2,(ne 3 (by decide)).trans h.c3,setP_same _ _ _ _ _ ((cel 4).trans h.c4),⟨e,p,(ne 5 (by decide)).trans y5,(ne 6 (by decide)).trans y6,y7⟩,fun i hi=>(World.frozen?_setCell ..).trans ((World.frozen?_of_block (a:=⟨b,i,none⟩) hb5).trans (h.fr i hi)),⟨⟨xs++[s],?_,fun o0=>by rw[hx.1 o0],by rw[List.length_append,List.length_append];simp;omega⟩⟩,h.nam.keep hB,h.row.keep hB,fun w2 h2=>h.giv w2 (hB.trans h2),h.fit,h.le,h.oks,h.few⟩,hfar,fun g hg2=>?_⟩
 ·rw[strsP_app,List.length_append]
  exact row_kept hown fun g hgv=>Below.heap_setCell _ _ _ _ (fun e=>hne (by rw[hgv,e]))
 ·rcases hat g hg2 with e | e
  ·exact .inl e
  ·exact .inr (by omega)
structure PlC (b rb xb:Nat) (w W:World) (A:Option Addr) (n c:Nat) (l:List Tok) (vN:Value) (ns:List Bs) (k o:Nat) (sf:Sf) (ms:List Bs) (vM0 vM:Value) (nm:ByteArray) (ec:Bool) (vE:Value) (es:List EdP):Prop where
 rd:RdC b W A n c l vN ns k o sf ms vM
 went:WentC b w vM0 vM W
 hb:b<w.heap.size
 hr:w.heap.size≤rb
 hx:rb<xb
 rbox:BoxP W rb zeroP
 xbox:BoxP W xb [.string nm,.bool ec,vE]
 se:vM.ownBlock≠some rb∧vM.ownBlock≠some xb
 row:OwnE (xb+1) W vE es
section
variable {rb xb:Nat} {nm:ByteArray} {ec:Bool} {vE:Value} {es:List EdP}
theorem PlC.at_ (h:PlC b rb xb w W A n c l vN ns k o sf ms vM0 vM nm ec vE es):b<w.heap.size∧w.heap.size≤rb∧rb<xb∧xb<W.heap.size:=⟨h.hb,h.hr,h.hx,h.xbox.lt (by simp)⟩
theorem PlC.call (h:PlC b rb xb w W A n c l vN ns k o sf ms vM0 vM nm ec vE es) (hs:StepC b W A n c l vN ns k' o' sf' ms vM W'):PlC b rb xb w W' A n c l vN ns k' o' sf' ms vM0 vM nm ec vE es:=by
 obtain⟨q0,q1,q2,q3⟩:=h.at_
 exact⟨hs.2,h.went.trans (.of hs.1),h.hb,h.hr,h.hx,h.rbox.grown (by simp) hs.1 (by omega),h.xbox.grown (by simp) hs.1 (by omega),h.se,row_kept h.row fun g hg=>hs.1.block g (h.row.lt g hg).2 (fun e=>by injection e with e;have:=(h.row.lt g hg).1;omega)⟩
theorem PlC.below (h:PlC b rb xb w W A n c l vN ns k o sf ms vM0 vM nm ec vE es) (hb:Below W.heap.size W W'):PlC b rb xb w W' A n c l vN ns k o sf ms vM0 vM nm ec vE es:=h.call ⟨grnP_below hb,h.rd.low hb⟩
theorem PlC.setE (h:PlC b rb xb w W A n c l vN ns k o sf ms vM0 vM nm ec vE es) (ec':Bool):PlC b rb xb w (W.setCell ⟨xb,1,none⟩ (.bool ec')) A n c l vN ns k o sf ms vM0 vM nm ec' vE es:=by
 obtain⟨q0,q1,q2,q3⟩:=h.at_
 have hbl:∀ i,i≠xb→(W.setCell ⟨xb,1,none⟩ (.bool ec')).heap[i]?=W.heap[i]?:=fun i hi=>Below.heap_setCell _ _ _ _ hi
 exact⟨h.rd.other (a:=⟨xb,1,none⟩) (by show b<xb;omega) h.se.2 _,⟨⟨h.went.far.os,h.went.far.tape,h.went.far.output,by simpa[World.setCell] using h.went.far.size,fun i hi hb hn hn2=>(hbl i (by omega)).trans (h.went.far.block i hi hb hn hn2)⟩,h.went.fM⟩,h.hb,h.hr,h.hx,h.rbox.other (a:=⟨xb,1,none⟩) (by show xb≠rb;omega) _,h.xbox.set 1 (by simp) _,h.se,row_kept h.row fun g hg=>hbl g (by have:=(h.row.lt g hg).1;omega)⟩
theorem PlC.push (h:PlC b rb xb w W A n c l vN ns k o sf ms vM0 vM nm ec vE es) (e:EdP) {vE':Value} (hr:W'.ownsRow (xb+1) 39 5 vE' (es.length+1) (cellsE es++cellE e)) (hg:W.grownBy W' vE.ownBlock):PlC b rb xb w (W'.setCell ⟨xb,2,none⟩ vE') A n c l vN ns k o sf ms vM0 vM nm ec vE' (es++[e]):=by
 obtain⟨q0,q1,q2,q3⟩:=h.at_
 have hvE:∀ g,vE.ownBlock=some g→xb<g:=fun g hg=>by have:=(h.row.lt g hg).1;omega
 have hvE':∀ g,vE'.ownBlock=some g→xb<g:=fun g hg=>by have:=(hr.lt g hg).1;omega
 have hbl:∀ i,i<W.heap.size→i≠xb→vE.ownBlock≠some i→(W'.setCell ⟨xb,2,none⟩ vE').heap[i]?=W.heap[i]?:=fun i hi hn hv=>(Below.heap_setCell _ _ _ _ hn).trans (hg.block i hi (fun e=>hv e.symm))
 have hsz:W.heap.size≤(W'.setCell ⟨xb,2,none⟩ vE').heap.size:=by simpa[World.setCell] using hg.size
 have hlow:Below xb W (W'.setCell ⟨xb,2,none⟩ vE'):=⟨hg.os,hg.tape,hg.output,hsz,fun i hi=>hbl i (by omega) (by omega) (fun e=>by have:=hvE i e;omega)⟩;obtain⟨xs,r1,e1,e2⟩:=h.rd.own.ex
 have hv:∀ g,vM.ownBlock=some g→vE.ownBlock≠some g:=fun g hgg e=>by
  obtain⟨cur,e1⟩:=own_type h.row e;obtain⟨cur',e2⟩:=own_type r1 hgg;rw[e1] at e2;injection e2 with e2
  injection e2 with _ e3
  exact absurd e3 (by decide)
 have hbk:=hbl b (by omega) (by omega) (fun e=>by have:=hvE b e;omega)
 have hd:RdC b (W'.setCell ⟨xb,2,none⟩ vE') A n c l vN ns k o sf ms vM:=
  h.rd.same (fun j=>World.cell?_of_block (a:=⟨b,j,none⟩) hbk) (fun j _=>World.frozen?_of_block (a:=⟨b,j,none⟩) hbk) (hlow.mono (by omega)) ⟨⟨xs,row_kept r1 fun g hgg=>hbl g (r1.lt g hgg).2 (fun e=>h.se.2 (by rw[←e];exact hgg)) (hv g hgg),e1,e2⟩⟩
 have hbx:BoxP W' xb [.string nm,.bool ec,vE]:=h.xbox.block (hg.block xb q3 (fun e=>by have:=hvE xb e.symm;omega));have hws:=h.went.far.size;refine⟨hd,⟨⟨hg.os.trans h.went.far.os,hg.tape.trans h.went.far.tape,hg.output.trans h.went.far.output,Nat.le_trans hws hsz,fun i hi hb hn hn2=>(hbl i (by omega) (by omega) (fun e=>by have:=hvE i e;omega)).trans (h.went.far.block i hi hb hn hn2)⟩,h.went.fM⟩,h.hb,h.hr,h.hx,h.rbox.block (hbl rb (by omega) (by omega) (fun e=>by have:=hvE rb e;omega)),hbx.set 2 (by simp) vE',h.se,?_⟩;show World.ownsRow _ _ _ _ _ (es++[e]).length _;rw[cellsE_app,List.length_append];have e1:cellsE [e]=cellE e:=by unfold cellsE;simp
 rw[e1];exact row_kept hr fun g hgg=>Below.heap_setCell _ _ _ _ (by have:=hvE' g hgg;show g≠xb;omega)
theorem PlC.grown_box (h:PlC b rb xb w W A n c l vN ns k o sf ms vM0 vM nm ec vE es) (hg:W.grownBy W' vE.ownBlock):BoxP W' xb [.string nm,.bool ec,vE]:=h.xbox.block (hg.block xb h.at_.2.2.2 (fun e=>by have:=(h.row.lt xb e.symm).1;omega))
end
theorem PlC.start {rb xb:Nat} {nm:ByteArray} (h:Cyc b w W A n c l vN ns k o sf ms vM [(xb,[.string nm,.bool false,nilV]),(rb,zeroP)]) {v2:Value} (hr:RdC b W' A n c l vN ns k' o' sf' ms' v2) (hw:WentC b W vM v2 W'):PlC b rb xb w W' A n c l vN ns k' o' sf' ms' vM v2 nm false nilV []:=by
 obtain⟨q0,q1,q2,q3⟩:=h.two;have s0:=h.se (xb,[.string nm,.bool false,nilV]) (by simp);have s1:=h.se (rb,zeroP) (by simp);have hk:∀ q,q<W.heap.size→q≠b→vM.ownBlock≠some q→W'.heap[q]?=W.heap[q]?:=fun q h1 h2 h3=>hw.far.block q h1 h2 h3 (by simp[Value.ownBlock])
 exact⟨hr,(WentC.of h.gr).trans hw,q0,q1,q2,(h.box 1 rb zeroP rfl).block (hk rb (by omega) (by omega) s1),(h.box 0 xb _ rfl).block (hk xb (by omega) (by omega) s0),⟨fun e=>(by
  rcases hw.fM _ e with e | e
  ·exact s1 e
  ·omega),fun e=>(by
  rcases hw.fM _ e with e | e
  ·exact s0 e
  ·omega)⟩,World.ownsRow_nil _ _ _ _⟩
theorem PlC.fin {rb xb:Nat} {nm:ByteArray} {ec:Bool} {vE:Value} {es:List EdP} (h:PlC b rb xb w W A n c l vN ns k o sf ms vM0 vM nm ec vE es) (u0 u1 u2:Value):RdC b (((W.setCell ⟨rb,0,none⟩ u0).setCell ⟨rb,1,none⟩ u1).setCell ⟨rb,2,none⟩ u2) A n c l vN ns k o sf ms vM∧WentC b w vM0 vM (((W.setCell ⟨rb,0,none⟩ u0).setCell ⟨rb,1,none⟩ u1).setCell ⟨rb,2,none⟩ u2)∧OwnE w.heap.size (((W.setCell ⟨rb,0,none⟩ u0).setCell ⟨rb,1,none⟩ u1).setCell ⟨rb,2,none⟩ u2) vE es:=by
 obtain⟨q0,q1,q2,q3⟩:=h.at_
 have hbl:∀ i,i≠rb→(((W.setCell ⟨rb,0,none⟩ u0).setCell ⟨rb,1,none⟩ u1).setCell ⟨rb,2,none⟩ u2).heap[i]?=W.heap[i]?:=fun i hi=>(Below.heap_setCell _ _ _ _ hi).trans ((Below.heap_setCell _ _ _ _ hi).trans (Below.heap_setCell _ _ _ _ hi))
 refine⟨((h.rd.other (a:=⟨rb,0,none⟩) (by show b<rb;omega) h.se.1 _).other (a:=⟨rb,1,none⟩) (by show b<rb;omega) h.se.1 _).other (a:=⟨rb,2,none⟩) (by show b<rb;omega) h.se.1 _,⟨⟨h.went.far.os,h.went.far.tape,h.went.far.output,by simpa[World.setCell] using h.went.far.size,fun i hi hb hn hn2=>(hbl i (by omega)).trans (h.went.far.block i hi hb hn hn2)⟩,h.went.fM⟩,?_⟩;exact own_lowP (row_kept h.row fun g hg=>hbl g (by have:=(h.row.lt g hg).1;omega)) (by omega)
theorem PlC.len {rb xb:Nat} {nm:ByteArray} {ec:Bool} {vE:Value} {es:List EdP} (h:PlC b rb xb w W A n c l vN ns k o sf ms vM0 vM nm ec vE es):∃ A' c',vE= .slice A' es.length c':=by
 rcases h.row.2 with ⟨rfl,e⟩ | ⟨g,cap,cur,rfl,_⟩
 ·exact⟨_,_,by rw[e]⟩
 ·exact⟨_,_,rfl⟩
def Cont {α:Type} (T:Rp (List α)) (sf3:Sf) (es:List α) (sf4:Sf) (R:Rp (List α)):Prop:=T.at=R.at∧T.err=R.err∧(R.err=0→(sf3++T.sfs).head?=(sf4++R.sfs).head?)∧∀ es2,RsV R es2→RsV T (es++es2)
theorem Cont.start {α:Type} (T:Rp (List α)) (sf3:Sf):Cont T sf3 [] sf3 T:=⟨rfl,rfl,fun _=>rfl,fun _ h=>h⟩
theorem Cont.more {α:Type} {T:Rp (List α)} {sf3 sf4:Sf} {es:List α} {R1:Rp Unit} {R2:Rp α} {F:α→Nat→Rp (List α)} {e:α} (h:Cont T sf3 es sf4 (R1.then fun _ _=>R2.then fun e i=>(F e i).then fun es m=> .ok (e::es) m [] [])) (h1:R1.err=0) (he:RsV R2 e):Cont T sf3 (es++[e]) ((sf4++R1.sfs)++R2.sfs) (gateR R2.err R2.at (F e R2.at)):=by
 obtain⟨a1,a2,a3,a4⟩:=h
 cases R1 with
 | bad j=>cases h1
 | ok u j1 s1 g1=>
   cases R2 with
   | bad j=>
     refine⟨a1,a2,fun h=>(by cases h),fun es2 _ y m s g e=>?_⟩;rw[e] at a2
     cases a2
   | ok y j2 s2 g2=>
     obtain rfl:=he _ _ _ _ rfl;show Cont T sf3 (es++[y]) ((sf4++s1)++s2) (F y j2)
     cases hF:F y j2 with
     | bad j=>
       simp only[Rp.then,hF] at a1 a2;refine⟨a1,a2,fun h=>(by cases h),fun es2 _ y m s g e=>?_⟩;rw[e] at a2
       cases a2
     | ok ys j s g=>
       simp only[Rp.then,hF] at a1 a2 a3 a4;refine⟨a1,a2,fun _=>?_,fun es2 h2=>?_⟩
       ·rw[a3 rfl]
        show (sf4++(s1++(s2++(s++[])))).head?=_;simp[Rp.sfs]
       ·have:=h2 _ _ _ _ rfl
        subst this;have:=a4 (y::ys) (fun z m s g e=>by injection e with e;exact e.symm);rw[List.append_assoc];exact this
def GeR {α:Type} (k:Nat) (R:Rp α):Prop:=∀ y m s gs,R= .ok y m s gs→k≤m
theorem geR_then {α β:Type} {k:Nat} {R:Rp α} {f:α→Nat→Rp β} (h1:GeR k R) (h2:∀ x i,k≤i→GeR k (f x i)):GeR k (R.then f):=by
 intro y m s gs h
 cases R with
 | bad j=>cases h
 | ok x i s1 g1=>
   unfold Rp.then at h
   simp only at h
   cases hf:f x i with
   | bad j=>rw[hf] at h;cases h
   | ok z m' s2 g2=>
     rw[hf] at h;injection h with _ hm
     rw[←hm];exact h2 x i (h1 _ _ _ _ rfl) _ _ _ _ hf
theorem geR_ok {α:Type} {k:Nat} (x:α) (j:Nat) (s:Sf) (gs:Gs) (hj:k≤j):GeR k (.ok x j s gs):=fun y m s g h=>by injection h with _ h;omega
theorem geR_need {k:Nat} (kd:Int) (w:Bs) (i:Nat) (h:k≤i):GeR k (needP l kd w i):=fun _ _ _ _ e=>by have:=(need_ok e).1;omega
theorem geR_name {k:Nat} (i:Nat) (h:k≤i):GeR k (nameP l i):=fun _ _ _ _ e=>by have:=(name_ok e).1;omega
theorem geR_text {k:Nat} (i:Nat) (h:k≤i):GeR k (textP l i):=fun _ _ _ _ e=>by have:=(text_okP e).1;omega
theorem geR_take {k:Nat} (kd:Int) (i:Nat) (h:k≤i):GeR k (takeP l kd i):=fun _ _ _ _ e=>by have:=(take_ok e).1;omega
theorem geR_del {k:Nat} (z:Int) (i:Nat) (h:k≤i):GeR k (cdel l z i):=geR_then (geR_take 2 i h) fun _ _ h=>geR_ok _ _ _ _ h
theorem geR_dels {k:Nat} (i:Nat) (h:k≤i):GeR k (cdels l i):=geR_then (geR_need _ _ _ h) fun _ _ h=>geR_then (geR_del _ _ h) fun _ _ h=>by
 split
 ·exact geR_ok _ _ _ _ (by omega)
 ·exact geR_then (geR_del _ _ h) fun _ _ h=>geR_ok _ _ _ _ h
theorem geR_goto {k:Nat} (i:Nat) (h:k≤i):GeR k (cgoto l ns i):=geR_then (geR_need _ _ _ h) fun _ _ h=>geR_then (geR_name _ h) fun _ _ h=>geR_ok _ _ _ _ h
theorem geR_ctext {k:Nat} (kd cap:Int) (i:Nat) (h:k≤i):GeR k (ctext l kd cap i):=geR_then (geR_text _ h) fun _ _ h=>geR_ok _ _ _ _ h
theorem geR_edge (cap:Int) (k:Nat):GeR (k+1) (cedge l ns cap k):=by
 refine geR_then (fun y m s g e=>?_) fun kd i h=>?_
 ·rcases ckind_cases (l:=l) (k:=k) with h | h | h | h
  all_goals
   rw[h] at e
   first | (cases e;done) | (injection e with _ e;omega)
 ·unfold cedgeK
  split
  ·exact geR_then (geR_ctext _ _ _ h) fun _ _ h=>geR_then (geR_dels _ h) fun _ _ h=>geR_then (geR_goto _ h) fun _ _ h=>geR_ok _ _ _ _ h
  ·split
   ·exact geR_then (geR_ctext _ _ _ h) fun _ _ h=>geR_then (geR_goto _ h) fun _ _ h=>geR_ok _ _ _ _ h
   ·exact geR_then (geR_dels _ h) fun _ _ h=>geR_ok _ _ _ _ h
theorem met_then {α β:Type} (v:Bool) (k:Nat) (e:Int) (R:Rp α) (F:α→Nat→Rp β):(Rp.met v k e R).then F=Rp.met v k e (R.then F):=by
 cases R with
 | bad j=>rfl
 | ok x j s g=>
   simp only[Rp.met,Rp.then]
   cases F x j with
   | bad q=>rfl
   | ok y q s2 g2=>simp only[List.append_assoc]
theorem edges_more (cap:Int) (N m k:Nat) (h:isP l 4 [125] k=false):cedges l ns cap (N+1) m k=(demP (decide ((m:Int)<8)) 9 k).then fun _ _=>(cedge l ns cap k).then fun e i=>(cedges l ns cap N (m+1) i).then fun es m=> .ok (e::es) m [] []:=by
 rw[cedges,if_neg (by rw[h];decide),dem_ok]
 have:(decide (8≤m))= !decide ((m:Int)<8):=by
  by_cases c:m<8
  ·rw[decide_eq_false (by omega),decide_eq_true (by omega)];rfl
  ·rw[decide_eq_true (by omega),decide_eq_false (by omega)];rfl
 rw[this,met_then]
theorem cname_parts (k:Nat):cname l ms k=(demP (!ms.contains (nxp l k).word) 12 k).then fun _ i=>nameP l i:=by
 rw[dem_ok,Bool.not_not];unfold cname nameP
 split
 ·show Rp.ok (nxp l k).word (k+1) ([]++(if ms.contains (nxp l k).word=true then [(k,12)] else [])) []=Rp.ok (nxp l k).word (k+1) ((if ms.contains (nxp l k).word=true then [(k,12)] else [])++[]) []
  rw[List.nil_append,List.append_nil]
 ·rfl
end
end
section
abbrev ldC:Op:= .load 50 (.tmp 31)
abbrev ldD:Op:= .load 40 (.tmp 67)
section
variable {b:Nat} {w w' W W':World} {A:Option Addr} {n c:Nat} {l:List Tok} {vN:Value} {ns:List Bs} {k o k' o':Nat} {sf sf':Sf} {ms ms':List Bs} {vM vM' vM0:Value}
def PlaS (b:Nat) (w:World) (A:Option Addr) (n c:Nat) (l:List Tok) (vN:Value) (ns:List Bs) (sf:Sf) (ms:List Bs) (vM:Value) (R:Rp PlP) (e:Ending) (w':World):Prop:=∃ (x:PlP) (vE vM':Value),e= .returned (.agg #[.string ⟨x.name.toArray⟩,.bool x.echo,vE])∧RdC b w' A n c l vN ns R.at R.err (sf++R.sfs) (ms++[x.name]) vM'∧WentC b w vM vM' w'∧OwnE w.heap.size w' vE x.edges∧RsV R x
theorem place_end (cap:Int) {R1:Rp Unit} {R2:Rp Unit} {R3:Rp Bs} {R4:Rp Bool} {R5:Rp Unit} {T:Rp (List EdP)} (h1:R1=needP l 1 wAt k) (h2:R2=gateR R1.err R1.at (demP (!ms.contains (nxq l R1.at R1.err).word) 12 R1.at)) (h3:R3=gateR R2.err R2.at (nameP l R2.at)) (h4:R4=gateR R3.err R3.at (takB l 1 wEcho R3.at)) (h5:R5=gateR R4.err R4.at (needP l 4 [123] R4.at)) (hT:T=gateR R5.err R5.at (cedges l ns cap (l.length+1) 0 R5.at))
  {s:Bs} {v:Bool} {es:List EdP} (hs:RsV R3 s) (hv:RsV R4 v) (he:RsV T es) (hr:RdC b W A n c l vN ns T.at T.err ((((((sf++R1.sfs)++R2.sfs)++R3.sfs)++R4.sfs)++R5.sfs)++T.sfs) ms' vM'):
  RdC b W A n c l vN ns (cplace l ns cap ms k).at (cplace l ns cap ms k).err (sf++(cplace l ns cap ms k).sfs) ms' vM'∧RsV (cplace l ns cap ms k) ⟨s,v,es⟩:=by
 have s6:=fin_rd (fun es:List EdP=>(⟨s,v,es⟩:PlP)) he hr;have g6:T.then (fun es r=>Rp.ok (⟨s,v,es⟩:PlP) r [] [])=gateR R5.err R5.at ((cedges l ns cap (l.length+1) 0 R5.at).then fun es r=>Rp.ok (⟨s,v,es⟩:PlP) r [] []):=by rw[gate_then,←hT]
 have s5:=two_rd (F:=fun _ q=>(cedges l ns cap (l.length+1) 0 q).then fun es r=>Rp.ok (⟨s,v,es⟩:PlP) r [] []) (x:=()) unit_res g6 s6;have g5:R5.then (fun _ q=>(cedges l ns cap (l.length+1) 0 q).then fun es r=>Rp.ok (⟨s,v,es⟩:PlP) r [] [])=gateR R4.err R4.at ((needP l 4 [123] R4.at).then fun _ q=>(cedges l ns cap (l.length+1) 0 q).then fun es r=>Rp.ok (⟨s,v,es⟩:PlP) r [] []):=by rw[gate_then,←h5]
 have s4:=two_rd (F:=fun v m=>(needP l 4 [123] m).then fun _ q=>(cedges l ns cap (l.length+1) 0 q).then fun es r=>Rp.ok (⟨s,v,es⟩:PlP) r [] []) hv g5 s5;have g4:R4.then (fun v m=>(needP l 4 [123] m).then fun _ q=>(cedges l ns cap (l.length+1) 0 q).then fun es r=>Rp.ok (⟨s,v,es⟩:PlP) r [] [])=gateR R3.err R3.at ((takB l 1 wEcho R3.at).then fun v m=>(needP l 4 [123] m).then fun _ q=>(cedges l ns cap (l.length+1) 0 q).then fun es r=>Rp.ok (⟨s,v,es⟩:PlP) r [] []):=by rw[gate_then,←h4]
 have s3:=two_rd (F:=fun s j=>(takB l 1 wEcho j).then fun v m=>(needP l 4 [123] m).then fun _ q=>(cedges l ns cap (l.length+1) 0 q).then fun es r=>Rp.ok (⟨s,v,es⟩:PlP) r [] []) hs g4 s4;have g3:R3.then (fun s j=>(takB l 1 wEcho j).then fun v m=>(needP l 4 [123] m).then fun _ q=>(cedges l ns cap (l.length+1) 0 q).then fun es r=>Rp.ok (⟨s,v,es⟩:PlP) r [] [])=gateR R2.err R2.at ((nameP l R2.at).then fun s j=>(takB l 1 wEcho j).then fun v m=>(needP l 4 [123] m).then fun _ q=>(cedges l ns cap (l.length+1) 0 q).then fun es r=>Rp.ok (⟨s,v,es⟩:PlP) r [] []):=by rw[gate_then,←h3]
 have s2:=two_rd (F:=fun _ i=>(nameP l i).then fun s j=>(takB l 1 wEcho j).then fun v m=>(needP l 4 [123] m).then fun _ q=>(cedges l ns cap (l.length+1) 0 q).then fun es r=>Rp.ok (⟨s,v,es⟩:PlP) r [] []) (x:=()) unit_res g3 s3
 have g2:R2.then (fun _ i=>(nameP l i).then fun s j=>(takB l 1 wEcho j).then fun v m=>(needP l 4 [123] m).then fun _ q=>(cedges l ns cap (l.length+1) 0 q).then fun es r=>Rp.ok (⟨s,v,es⟩:PlP) r [] [])=gateR R1.err R1.at ((fun i=>(cname l ms i).then fun s j=>(takB l 1 wEcho j).then fun v m=>(needP l 4 [123] m).then fun _ q=>(cedges l ns cap (l.length+1) 0 q).then fun es r=>Rp.ok (⟨s,v,es⟩:PlP) r [] []) R1.at):=by
  rw[h2,←gate_then];unfold gateR
  split
  ·rename_i ho
   show _=(cname l ms R1.at).then _
   rw[cname_parts,then_assoc,ho];rfl
  ·rfl
 have s1:=two_rd (F:=fun _ i=>(cname l ms i).then fun s j=>(takB l 1 wEcho j).then fun v m=>(needP l 4 [123] m).then fun _ q=>(cedges l ns cap (l.length+1) 0 q).then fun es r=>Rp.ok (⟨s,v,es⟩:PlP) r [] []) (x:=()) unit_res g2 s2;have g1:R1.then (fun _ i=>(cname l ms i).then fun s j=>(takB l 1 wEcho j).then fun v m=>(needP l 4 [123] m).then fun _ q=>(cedges l ns cap (l.length+1) 0 q).then fun es r=>Rp.ok (⟨s,v,es⟩:PlP) r [] [])=cplace l ns cap ms k:=by rw[h1];rfl
 rw[g1] at s1;exact s1
theorem cplace_any (cap:Int) (h:RdC b w A n c l vN ns k 0 sf ms vM) (hm:ms.length≤4001):
  Calls Tryz.prog 62 #[.pointer (some ⟨b,0,none⟩),.int .i64 cap] w (PlaS b w A n c l vN ns sf ms vM (cplace l ns cap ms k)):=by
 have H:=Lib.hid (Cyc.start h);have hlen:=h.len;obtain⟨R1,h1⟩:∃ R1,R1=needP l 1 wAt k:=⟨_,rfl⟩;have K1:NeeR b A n c l vN ns ms vM 1 ⟨#[97,116]⟩ k 0 sf R1:=by rw[h1];exact neeR b A n c l vN ns ms vM 1 (by decide) ⟨#[97,116]⟩ k 0 sf
 have K:=nexR b A n c l vN ns ms vM R1.at R1.err (sf++R1.sfs)
 have KH:Hid (∀ W,RdC b W A n c l vN ns R1.at R1.err (sf++R1.sfs) ms vM→Calls Tryz.prog 93 #[vM,.string ⟨(nxq l R1.at R1.err).word.toArray⟩] W fun e w2=>∃ v,e= .returned (.bool v)∧w2=W∧(R1.err=0→v=ms.contains (nxq l R1.at R1.err).word)):=Lib.hid fun W hW=>by
  obtain⟨xs,r1,e1,e2⟩:=hW.own.ex;have:=hW.oks;exact(chas_any (nxq l R1.at R1.err).word W r1 (by omega)).mono fun e w2 ⟨h1,h2⟩=>⟨_,h1,h2,fun h0=>by rw[e1 h0]⟩
 obtain⟨R2,h2⟩:∃ R2,R2=gateR R1.err R1.at (demP (!ms.contains (nxq l R1.at R1.err).word) 12 R1.at):=⟨_,rfl⟩
 have K2:Hid (∀ v,(R1.err=0→v=ms.contains (nxq l R1.at R1.err).word)→DemR b A n c l vN ns ms vM (!v) 12 R1.at R1.err (sf++R1.sfs) R2):=Lib.hid fun v hv=>by
  have e:R2=gateR R1.err R1.at (demP (!v) 12 R1.at):=by
   rw[h2]
   rcases err_any R1 with e | e
   ·rw[hv e]
   ·rw[e];rfl
  rw[e];exact demR b A n c l vN ns ms vM (!v) 12 (by decide) R1.at R1.err (sf++R1.sfs)
 obtain⟨R3,h3⟩:∃ R3,R3=gateR R2.err R2.at (nameP l R2.at):=⟨_,rfl⟩;have K3:=namR b A n c l vN ns ms vM R2.at R2.err ((sf++R1.sfs)++R2.sfs);rw[←h3] at K3;obtain⟨R4,h4⟩:∃ R4,R4=gateR R3.err R3.at (takB l 1 wEcho R3.at):=⟨_,rfl⟩;obtain⟨v4,hv4⟩:∃ v4,v4=isOp l 1 wEcho R3.at R3.err:=⟨_,rfl⟩;have V4:Hid (RsV R4 v4):=Lib.hid (by rw[h4,hv4];exact take_res l)
 have K4:Hid (∀ ms2 vM2,TakR b A n c l vN ns ms2 vM2 1 ⟨#[101,99,104,111]⟩ R3.at R3.err (((sf++R1.sfs)++R2.sfs)++R3.sfs) v4 R4):=Lib.hid fun ms2 vM2=>by
  rw[h4];exact takR b A n c l vN ns ms2 vM2 1 (by decide) ⟨#[101,99,104,111]⟩ R3.at R3.err _ hv4.symm
 obtain⟨R5,h5⟩:∃ R5,R5=gateR R4.err R4.at (needP l 4 [123] R4.at):=⟨_,rfl⟩
 have K5:Hid (∀ ms2 vM2,NeeR b A n c l vN ns ms2 vM2 4 ⟨#[123]⟩ R4.at R4.err ((((sf++R1.sfs)++R2.sfs)++R3.sfs)++R4.sfs) R5):=Lib.hid fun ms2 vM2=>by
  rw[h5];exact neeR b A n c l vN ns ms2 vM2 4 (by decide) ⟨#[123]⟩ R4.at R4.err _
 obtain⟨T,hT⟩:∃ T,T=gateR R5.err R5.at (cedges l ns cap (l.length+1) 0 R5.at):=⟨_,rfl⟩;have HC0:Hid (Cont T (((((sf++R1.sfs)++R2.sfs)++R3.sfs)++R4.sfs)++R5.sfs) [] (((((sf++R1.sfs)++R2.sfs)++R3.sfs)++R4.sfs)++R5.sfs) (gateR R5.err R5.at (cedges l ns cap (l.length+1) 0 R5.at))):=Lib.hid (by rw[←hT];exact Cont.start _ _);have HF:Hid (∀ (s:Bs) (es:List EdP) (W:World) (ms':List Bs) (vM':Value),RsV R3 s→RsV T es→RdC b W A n c l vN ns T.at T.err ((((((sf++R1.sfs)++R2.sfs)++R3.sfs)++R4.sfs)++R5.sfs)++T.sfs) ms' vM'→RdC b W A n c l vN ns (cplace l ns cap ms k).at (cplace l ns cap ms k).err (sf++(cplace l ns cap ms k).sfs) ms' vM'∧RsV (cplace l ns cap ms k) ⟨s,v4,es⟩):=Lib.hid fun s es W ms' vM' hs he hr=>place_end cap h1 h2 h3 h4 h5 hT hs V4.out he hr
 obtain⟨i0,hi0,hz0,hz1,hz2⟩:=info_parts infoStP;obtain⟨j0,hj0,hy0,hy1,hy2⟩:=info_parts infoEdP;have he3:=err_any R3;have tf:=tkF1;clear h1 h2 h3 h4 h5 hT hv4 h V4;generalize cplace l ns cap ms k=R at HF ⊢;generalize hsf5:(((((sf++R1.sfs)++R2.sfs)++R3.sfs)++R4.sfs)++R5.sfs)=sf5 at HC0 HF;go_enter Tryz.func62,Tryz.ntmps62
 go_upto_region 2 with (go_at_call 58;go_must (((with_reducible refine(K1.out _ (H.out.alloc 42 zeroP (by simp)).rd).mono ?_));rintro e w1 ⟨rfl,hs⟩;have HA:=Lib.hid ((H.out.alloc 42 zeroP (by simp)).call hs);clear hs))
 have HA2:=Lib.hid HA.out.drew
 go_region_held3 (fun w'=>w'.cell? ⟨b,4,none⟩=some vM) (first | with_reducible exact HC.out.rd.c4 | with_reducible exact HB.out.rd.c4 | with_reducible exact HA2.out.rd.c4) (first
  | (go_at_call 60;go_must (((with_reducible refine(K.out _ HA2.out.rd).mono ?_));rintro e w2 ⟨A1,c1,rfl,hb1, -⟩;have HB:=Lib.hid (HA2.out.below hb1);clear hb1))
  | (go_at_call 93;go_must (((with_reducible refine(KH.out _ HB.out.rd).mono ?_));rintro e w3 ⟨v3,rfl,rfl,hv⟩;have HV:=Lib.hid hv;clear hv))
  | (go_at_call 59;go_must (((with_reducible refine((K2.out v3 HV.out).out _ HB.out.rd).mono ?_));rintro e w4 ⟨rfl,hs⟩;have HC:=Lib.hid (HB.out.call hs);clear hs))
  | fail)
 all_goals
  go_upto_region 4 with (go_at_call 94;go_must (((with_reducible refine(K3.out _ HC.out.rd).mono ?_));rintro e w5 ⟨s,rfl,hs,hv⟩;have HD:=Lib.hid ((HC.out.call hs).alloc 42 [.string ⟨s.toArray⟩,.bool false,nilV] (by simp));have HS:=Lib.hid hv;clear hs hv))
  generalize hN:w5.heap.size=xb at HD ⊢;generalize hW:w5.alloc (.cells #[.string ⟨s.toArray⟩,.bool false,nilV] 42)=W5 at HD ⊢;obtain⟨xs,r1,e1,e2⟩:=HD.out.rd.own.ex;have HX:=Lib.hid (And.intro e1 e2);have hxl:xs.length≤4003:=by omega
  obtain⟨q0,q1,q2,q4⟩:=HD.out.two;have m0:=HD.out.rd.c4;have hbl:=HD.out.rd.lt;have hbn:vM.ownBlock≠some b:=fun e=>absurd (HD.out.rd.own.above _ e).1 (Nat.lt_irrefl _)
  have hxn:vM.ownBlock≠some xb:=HD.out.se (xb,[.string ⟨s.toArray⟩,.bool false,nilV]) (by simp);obtain⟨S,hS⟩:∃ S:ByteArray,S=⟨s.toArray⟩:=⟨_,rfl⟩;have HSS:=Lib.hid hS;rw[←hS] at HD;clear hS;have m1:=(HD.out.alloc 9 [.string S] (by simp)).rd.c4;have HNM:Hid (W5.drew.cell? ⟨xb,0,none⟩=some (.string S)):=Lib.hid (HD.out.box 0 xb _ rfl).all3.1;have HNM2:Hid ((W5.alloc (.cells #[.string S] 9)).drew.cell? ⟨xb,0,none⟩=some (.string S)):=Lib.hid ((HD.out.alloc 9 [.string S] (by simp)).box 1 xb _ rfl).all3.1;have r2:(W5.alloc (.cells #[.string S] 9)).drew.ownsRow (b+1) 9 1 vM xs.length (strsP xs):=r1.alloc _;have n2:∀ j u,[Value.string S][j]?=some u→(W5.alloc (.cells #[.string S] 9)).drew.cell? ((⟨W5.heap.size,0,none⟩:Addr).add j)=some u:=cell_one_new W5 _ _;have hz4:b+1≤(W5.alloc (.cells #[.string S] 9)).drew.heap.size:=Nat.le_trans hbl (one_boxP W5 _).size;rw[show Op.load 50 (.tmp 31)=ldC from rfl]
  go_region_held3 (fun W'=>W'.cell? ⟨xb,0,none⟩=some (.string S)) (first | with_reducible exact HNM.out | with_reducible exact HNM2.out | with_reducible exact HNM3.out | with_reducible exact HNM4.out _)
   (first
    | (refine step_append_lies _ rfl (.tmp 32) (.tmp 35) 50 rfl (b+1) 9 i0 (.string ⟨#[]⟩) 1 16 Tryz.underlying50 hi0 hz0 hz1 hz2 rfl (by decide) _ xs.length (strsP xs) rfl r2 ⟨W5.heap.size,0,none⟩ 1 1 [.string S] rfl rfl n2 (by simp[Value.oneCell']) (by decide) (by unfold maxLen;omega) (by omega) hz4 _ rfl ?_;intro g6 cap6 w6 hown hgrow hat hlt;have HG:=Lib.hid (And.intro hown (And.intro (show (W5.alloc (.cells #[.string S] 9)).grownBy w6 vM.ownBlock from⟨hgrow.os,hgrow.tape,hgrow.output,hgrow.size,hgrow.block⟩) hat));have hb6:=(far_one HG.out.2.1).2.2.2.2 b hbl hbn;have hx6:=(far_one HG.out.2.1).2.2.2.2 xb q4 hxn;have c6:=(World.cell?_of_block (a:=⟨b,4,none⟩) hb6).trans m0;have f6:=(World.frozen?_of_block (a:=⟨b,4,none⟩) hb6).trans (HD.out.rd.fr 4 (by decide));have HNM3:Hid (w6.cell? ⟨xb,0,none⟩=some (.string S)):=Lib.hid ((World.cell?_of_block (a:=⟨xb,0,none⟩) hx6).trans HNM.out);have HNM4:Hid (∀ v,(w6.setCell ⟨b,4,none⟩ v).cell? ⟨xb,0,none⟩=some (.string S)):=Lib.hid (fun v=>(World.cell?_setCell_other _ _ _ _ (fun e=>by injection e with e _;omega)).trans HNM3.out);clear hown hgrow hat hlt hb6 hx6)
    | fail)
  all_goals
   have HR:=Lib.hid (HD.out.rd.grew (o1:= .cells #[.string S] 9) (s:=s) (v2:= .slice (some ⟨g6,0,none⟩) (xs.length+1) cap6) HX.out (by rw[←HSS.out];exact HG.out.1) HG.out.2.1 (fun g hg=>by
    have hg:some g6=some g:=hg;injection hg with hg
    rw[←hg];exact HG.out.2.2))
   have HP:=Lib.hid (PlC.start HD.out HR.out.1 HR.out.2);clear HX r1 r2 n2 hz4 m0 m1 c6 f6 HG HNM HNM2 HNM3 HNM4 HR hbn hxn hxl e1 e2;have K4:=(K4.out (ms++[s]) (.slice (some ⟨g6,0,none⟩) (xs.length+1) cap6));have K5:=(K5.out (ms++[s]) (.slice (some ⟨g6,0,none⟩) (xs.length+1) cap6));generalize (Value.slice (some ⟨g6,0,none⟩) (xs.length+1) cap6)=v2 at K4 K5 HP ⊢;generalize w6.setCell ⟨b,4,none⟩ v2=W6 at HP ⊢;obtain⟨x0,x1,x2⟩:=HP.out.xbox.all3;have xf1:=HP.out.xbox.fr 1 (by simp)
   go_wp2_with (first
    | (go_at_call 91;go_must (((with_reducible refine(K4.out _ HP.out.rd).mono ?_));rintro e w7 ⟨rfl,hs⟩;have HP1:=Lib.hid (HP.out.call hs);clear hs;clear x0 x1 x2 xf1;obtain⟨x0,x1,x2⟩:=HP1.out.xbox.all3;have xf1:=HP1.out.xbox.fr 1 (by simp);have HP2:=Lib.hid (HP1.out.setE v4)))
    | (go_at_call 58;go_must (((with_reducible refine(K5.out _ HP2.out.rd).mono ?_));rintro e w8 ⟨rfl,hs⟩;have HP3:=Lib.hid (HP2.out.call hs);clear hs x0 x1 x2 xf1)))
   have hln:=hlen.1;have HLN:=Lib.hid hlen;rw[hsf5] at HP3
   go_loopg [] (l.length+1) (fun M wr=>∃ (k4 o4:Nat) (sf4:Sf) (vE:Value) (es:List EdP),Hid (PlC b w.heap.size xb w wr A n c l vN ns k4 o4 sf4 (ms++[s]) vM v2 S v4 vE es)∧Hid (Cont T sf5 es sf4 (gateR o4 k4 (cedges l ns cap M es.length k4)))∧Hid (o4=0→l.length<M+k4)∧Hid (es.length+M≤l.length+1))
   case atStart=>exact⟨_,_,_,_,_,HP3,HC0,Lib.hid fun _=>by omega,Lib.hid (by simp)⟩
   case round=>
    clear HP3 HC0;obtain⟨k4,o4,sf4,vE,es,HE,HQ,HM,HN⟩:=hrel;obtain⟨Ae,ce,rfl⟩:=HE.out.len;have hlM:=HN.out;have hc2:=HE.out.rd.c2;by_cases o0:o4=0
    ·subst o0
     have hkn4:=HE.out.rd.le
     cases hv:isP l 4 [125] k4 with
     | true=>
       have KT:=takK b A n c l vN ns sf4 (ms++[s]) v2 4 (by decide) ⟨#[125]⟩ k4 0 (v:=true) ((isOp_zero _ _ _ _).trans hv);have hM0:=HM.out rfl;obtain⟨M2,hM2⟩:∃ M2,gk=M2+1:=⟨gk - 1,by omega⟩
       have HQ2:Hid (T.at=k4+1∧T.err=0∧(sf5++T.sfs).head?=sf4.head?∧RsV T es):=Lib.hid (by
        have HQo:=HQ.out;rw[hM2] at HQo;obtain⟨a1,a2,a3,a4⟩:=HQo
        have e:gateR 0 k4 (cedges l ns cap (M2+1) es.length k4)= .ok [] (k4+1) [] []:=by
         unfold gateR;rw[if_pos rfl,cedges,if_pos hv]
        rw[e] at a1 a2 a3 a4;refine⟨a1,a2,by have:=a3 rfl;simpa[Rp.sfs] using this,?_⟩;have:=a4 [] (fun y m z g e=>by injection e with e;exact e.symm);simpa using this)
       clear hv hM0 HQ hlM hM2;rw[if_pos rfl] at KT;go_wp2_with (go_at_call 91;go_must (((with_reducible refine(KT.out _ HE.out.rd).mono ?_));rintro e w9 ⟨rfl,hs⟩;have HE1:=Lib.hid (HE.out.call hs);obtain⟨x0,x1,x2⟩:=HE1.out.xbox.all3;obtain⟨y0,y1,y2⟩:=HE1.out.rbox.all3;have yf0:=HE1.out.rbox.fr 0 (by simp);have yf1:=HE1.out.rbox.fr 1 (by simp);have yf2:=HE1.out.rbox.fr 2 (by simp);clear hs));have HZ:=Lib.hid (HE1.out.fin (.string S) (.bool v4) (.slice Ae es.length ce));refine bodyPost_ret (v:= .agg #[.string S,.bool v4,.slice Ae es.length ce]) (by simp[results,Tryz.results62,go_sem,y0,y1,y2,World.cell?_setCell_same,setP_ne]) rfl ?_;obtain⟨z1,z2,z3⟩:=HZ.out;obtain⟨u1,u2,u3,u4⟩:=HQ2.out;have hF:=HF.out s es _ _ _ HS.out u4 (by rw[u1,u2];exact z1.noting _ fun _=>u3);exact⟨⟨s,v4,es⟩,_,_,by rw[HSS.out],hF.1,z2,z3,hF.2⟩
     | false=>
       have KT:=takK b A n c l vN ns sf4 (ms++[s]) v2 4 (by decide) ⟨#[125]⟩ k4 0 (v:=false) ((isOp_zero _ _ _ _).trans hv);rw[if_neg (by decide)] at KT;have hM0:=HM.out rfl;obtain⟨M2,hM2⟩:∃ M2,gk=M2+1:=⟨gk - 1,by omega⟩;have HM2:=Lib.hid hM2
       have HQ2:Hid (Cont T sf5 es sf4 ((demP (decide ((es.length:Int)<8)) 9 k4).then fun _ _=>(cedge l ns cap k4).then fun e i=>(cedges l ns cap M2 (es.length+1) i).then fun es m=> .ok (e::es) m [] [])):=Lib.hid (by
        have HQo:=HQ.out;rw[hM2] at HQo;rw[←edges_more cap M2 es.length k4 hv];exact HQo)
       obtain⟨el,hel⟩:∃ el,el=es.length:=⟨_,rfl⟩;have HEL:=Lib.hid hel;have hel9:el≤4001:=by omega
       have hgk1:1≤gk:=by omega
       have HLE:Hid (PlC b w.heap.size xb w wr A n c l vN ns k4 0 sf4 (ms++[s]) vM v2 S v4 (.slice Ae el ce) es):=Lib.hid (by rw[hel];exact HE.out);have KD:=demR b A n c l vN ns (ms++[s]) v2 (decide ((el:Int)<8)) 9 (by decide) k4 0 sf4;have KE:Hid (∀ w',RdC b w' A n c l vN ns k4 0 (sf4++(demP (decide ((el:Int)<8)) 9 k4).sfs) (ms++[s]) v2→Calls Tryz.prog 95 #[.pointer (some ⟨b,0,none⟩),.int .i64 cap] w' fun r w2=>∃ e:EdP,r= .returned (retE e)∧StepC b w' A n c l vN ns (cedge l ns cap k4).at (cedge l ns cap k4).err ((sf4++(demP (decide ((el:Int)<8)) 9 k4).sfs)++(cedge l ns cap k4).sfs) (ms++[s]) v2 w2∧RsV (cedge l ns cap k4) e):=Lib.hid fun w' h=>cedge_any cap h
       clear hv HQ hlM hel hM2 hM0 HE
       go_upto_region 9 with (first
        | (go_at_call 91;go_must (((with_reducible refine(KT.out _ HLE.out.rd).mono ?_));rintro e w9 ⟨rfl,hs⟩;have HE1:=Lib.hid (HLE.out.call hs);obtain⟨x0,x1,x2⟩:=HE1.out.xbox.all3;clear hs))
        | (go_at_call 59;go_must (((with_reducible refine(KD.out _ HE1.out.rd).mono ?_));rintro e w10 ⟨rfl,hs⟩;have HE2:=Lib.hid (HE1.out.call hs);clear hs x0 x1 x2)))
       rw[show Op.load 40 (.tmp 67)=ldD from rfl];have HE5:=Lib.hid (HE2.out.below (Below.refl _ _).drew);obtain⟨u0,u1,u2⟩:=HE2.out.xbox.all3;obtain⟨v0,v1,v5⟩:=HE5.out.xbox.all3;clear hc2
       go_region_held3 (fun _=>True) (exact trivial)
        (first
         | (go_at_call 95;go_must (((with_reducible refine(KE.out _ HE5.out.rd).mono ?_));rintro e w11 ⟨ed,rfl,hs,hv⟩;have HE6:=Lib.hid (HE5.out.call hs);have HV:=Lib.hid hv;have HE7:=Lib.hid (HE6.out.below (one_boxP w11 (.cells #[.int .i64 ed.kind,.string ⟨ed.text.toArray⟩,.int .i64 ed.lo,.int .i64 ed.hi,.int .i64 ed.to] 39)));obtain⟨d0,d1,d2⟩:=HE6.out.xbox.all3;obtain⟨f0,f1,f2⟩:=HE7.out.xbox.all3;clear hs hv))
         | (refine step_append_lies _ rfl (.tmp 68) (.tmp 72) 40 rfl (xb+1) 39 j0 (.agg #[.int .i64 0,.string ⟨#[]⟩,.int .i64 0,.int .i64 0,.int .i64 0]) 5 48 Tryz.underlying40 hj0 hy0 hy1 hy2 rfl (by decide) _ es.length (cellsE es) rfl HE7.out.row ⟨w11.heap.size,0,none⟩ 1 1 [.int .i64 ed.kind,.string ⟨ed.text.toArray⟩,.int .i64 ed.lo,.int .i64 ed.hi,.int .i64 ed.to] rfl (by rfl) (fun j u hu=>new_cells w11 39 #[.int .i64 ed.kind,.string ⟨ed.text.toArray⟩,.int .i64 ed.lo,.int .i64 ed.hi,.int .i64 ed.to] j u hu) (oneEdP _ _ _ _ _) (by decide) (by rw[←HEL.out];unfold maxLen;omega) (by rw[←HEL.out];omega) (HE7.out.xbox.lt (by simp)) _ rfl ?_;intro g9 cap9 w12 ho9 hg9 hat9 hlt9;have HG9:=Lib.hid (And.intro ho9 hg9);have HB9:=Lib.hid (HE7.out.grown_box hg9);obtain⟨l0,l1,l2⟩:=HB9.out.all3;have lf:=HB9.out.fr 2 (by simp);clear ho9 hg9 hat9 hlt9)
         | fail)
       all_goals
        go_wp2
        go_roundg (gk - 1)
        case measure=>omega
        case rel=>
         refine⟨(cedge l ns cap k4).at,(cedge l ns cap k4).err,_,_,es++[ed],Lib.hid (HE7.out.push ed HG9.out.1 HG9.out.2),Lib.hid ?_,Lib.hid fun h0=>?_,Lib.hid ?_⟩
         ·have:=HQ2.out.more rfl HV.out
          rw[show gk - 1=M2 by have:=HM2.out;omega,List.length_append,HEL.out];exact this
         ·have hM0:=HM.out trivial
          cases hq:cedge l ns cap k4 with
          | bad j=>rw[hq] at h0;cases h0
          | ok y j s' g=>
            have:=geR_edge cap k4 _ _ _ _ hq;show l.length<gk - 1+j;omega
         ·have:=HN.out
          rw[List.length_append];show es.length+1+(gk - 1)≤_;omega
    ·have ho4:o4=1:=by have:=HE.out.rd.oks;omega
     subst ho4;have HQ2:Hid (T.at=k4∧T.err=1):=Lib.hid ⟨HQ.out.1,HQ.out.2.1⟩;obtain⟨x0,x1,x2⟩:=HE.out.xbox.all3;obtain⟨y0,y1,y2⟩:=HE.out.rbox.all3;have yf0:=HE.out.rbox.fr 0 (by simp);have yf1:=HE.out.rbox.fr 1 (by simp);have yf2:=HE.out.rbox.fr 2 (by simp);clear HQ hlM o0;go_wp2;have HZ:=Lib.hid (HE.out.fin (.string S) (.bool v4) (.slice Ae es.length ce));refine bodyPost_ret (v:= .agg #[.string S,.bool v4,.slice Ae es.length ce]) (by simp[results,Tryz.results62,go_sem,y0,y1,y2,World.cell?_setCell_same,setP_ne]) rfl ?_;obtain⟨z1,z2,z3⟩:=HZ.out;obtain⟨u1,u2⟩:=HQ2.out;have hF:=HF.out s es _ _ _ HS.out (fun y m z g e=>by rw[e] at u2;cases u2) (by rw[u1,u2];exact z1.noting _ fun e=>by cases e);exact⟨⟨s,v4,es⟩,_,_,by rw[HSS.out],hF.1,z2,z3,hF.2⟩
end
end
section
abbrev ldP:Op:= .load 22 (.tmp 54)
section
variable {b:Nat} {w w' W W':World} {A:Option Addr} {n c:Nat} {l:List Tok} {vN:Value} {ns:List Bs} {k o k' o':Nat} {sf sf':Sf} {ms ms':List Bs} {vM vM' vM0:Value}
structure PeC (b rb pb:Nat) (w W:World) (A:Option Addr) (n c:Nat) (l:List Tok) (vN:Value) (ns:List Bs) (k o:Nat) (sf:Sf) (ms:List Bs) (vM0 vM:Value) (cap:Int) (vX:Value) (q:List Pv):Prop where
 rd:RdC b W A n c l vN ns k o sf ms vM
 went:WentC b w vM0 vM W
 hb:b<w.heap.size
 hr:w.heap.size≤rb
 hx:rb<pb
 rbox:BoxP W rb zeroPe
 pbox:BoxP W pb [.int .i64 cap,vX]
 se:vM.ownBlock≠some rb∧vM.ownBlock≠some pb
 own:OwnXs (pb+1) W vX q
section
variable {rb pb:Nat} {cap:Int} {vX:Value} {q:List Pv}
theorem PeC.at_ (h:PeC b rb pb w W A n c l vN ns k o sf ms vM0 vM cap vX q):b<w.heap.size∧w.heap.size≤rb∧rb<pb∧pb<W.heap.size:=⟨h.hb,h.hr,h.hx,h.pbox.lt (by simp)⟩
theorem PeC.went_on (h:PeC b rb pb w W A n c l vN ns k o sf ms vM0 vM cap vX q) (hr:RdC b W' A n c l vN ns k' o' sf' ms' vM') (hw:WentC b W vM vM' W'):PeC b rb pb w W' A n c l vN ns k' o' sf' ms' vM0 vM' cap vX q:=by
 obtain⟨q0,q1,q2,q3⟩:=h.at_
 have hk:∀ i,i<W.heap.size→i≠b→vM.ownBlock≠some i→W'.heap[i]?=W.heap[i]?:=fun i h1 h2 h3=>hw.far.block i h1 h2 h3 (by simp[Value.ownBlock])
 obtain⟨xs,r1, -⟩:=h.rd.own.ex;refine⟨hr,h.went.trans hw,h.hb,h.hr,h.hx,h.rbox.block (hk rb (by omega) (by omega) h.se.1),h.pbox.block (hk pb (by omega) (by omega) h.se.2),⟨fun e=>?_,fun e=>?_⟩,h.own.keep fun g hg=>hk g (h.own.lt g hg).2 (by have:=(h.own.lt g hg).1;omega) (h.own.ne r1 (by decide) (by decide) hg)⟩
 ·rcases hw.fM _ e with e | e
  ·exact h.se.1 e
  ·omega
 ·rcases hw.fM _ e with e | e
  ·exact h.se.2 e
  ·omega
theorem PeC.call (h:PeC b rb pb w W A n c l vN ns k o sf ms vM0 vM cap vX q) (hs:StepC b W A n c l vN ns k' o' sf' ms vM W'):PeC b rb pb w W' A n c l vN ns k' o' sf' ms vM0 vM cap vX q:=h.went_on hs.2 (.of hs.1)
theorem PeC.below (h:PeC b rb pb w W A n c l vN ns k o sf ms vM0 vM cap vX q) (hb:Below W.heap.size W W'):PeC b rb pb w W' A n c l vN ns k o sf ms vM0 vM cap vX q:=h.call ⟨grnP_below hb,h.rd.low hb⟩
theorem PeC.start (h:Cyc b w W A n c l vN ns k o sf ms vM [(pb,zeroPe),(rb,zeroPe)]):PeC b rb pb w W A n c l vN ns k o sf ms vM vM 0 nilV []:=by
 obtain⟨q0,q1,q2,q3⟩:=h.two;exact⟨h.rd,.of h.gr,q0,q1,q2,h.box 1 rb zeroPe rfl,h.box 0 pb zeroPe rfl,⟨h.se (rb,zeroPe) (by simp),h.se (pb,zeroPe) (by simp)⟩,OwnXs.nil _ _⟩
theorem PeC.setcap (h:PeC b rb pb w W A n c l vN ns k o sf ms vM0 vM cap vX q) (cap':Int):PeC b rb pb w (W.setCell ⟨pb,0,none⟩ (.int .i64 cap')) A n c l vN ns k o sf ms vM0 vM cap' vX q:=by
 obtain⟨q0,q1,q2,q3⟩:=h.at_
 have hbl:∀ i,i≠pb→(W.setCell ⟨pb,0,none⟩ (.int .i64 cap')).heap[i]?=W.heap[i]?:=fun i hi=>Below.heap_setCell _ _ _ _ hi
 exact⟨h.rd.other (a:=⟨pb,0,none⟩) (by show b<pb;omega) h.se.2 _,⟨⟨h.went.far.os,h.went.far.tape,h.went.far.output,by simpa[World.setCell] using h.went.far.size,fun i hi hb hn hn2=>(hbl i (by omega)).trans (h.went.far.block i hi hb hn hn2)⟩,h.went.fM⟩,h.hb,h.hr,h.hx,h.rbox.other (a:=⟨pb,0,none⟩) (by show pb≠rb;omega) _,h.pbox.set 0 (by simp) _,h.se,h.own.keep fun g hg=>hbl g (by have:=(h.own.lt g hg).1;omega)⟩
theorem PeC.push (h:PeC b rb pb w W A n c l vN ns k o sf ms vM0 vM cap vX q) (x:PlP) {vE vX':Value} {B:Nat} (hE:OwnE B W vE x.edges) (hB:pb+1≤B) (hold:∀ y∈q,∀ g,y.2.ownBlock=some g→g<B) (hr:W'.ownsRow (pb+1) 42 3 vX' (q.length+1) (cellsX q++[.string ⟨x.name.toArray⟩,.bool x.echo,vE])) (hg:W.grownBy W' vX.ownBlock):
  PeC b rb pb w (W'.setCell ⟨pb,1,none⟩ vX') A n c l vN ns k o sf ms vM0 vM cap vX' (q++[(x,vE)]):=by
 obtain⟨q0,q1,q2,q3⟩:=h.at_
 have hvX:∀ g,vX.ownBlock=some g→pb<g:=fun g hg=>by have:=(h.own.row.lt g hg).1;omega
 have hvX':∀ g,vX'.ownBlock=some g→pb<g:=fun g hg=>by have:=(hr.lt g hg).1;omega
 have hbl:∀ i,i<W.heap.size→i≠pb→vX.ownBlock≠some i→(W'.setCell ⟨pb,1,none⟩ vX').heap[i]?=W.heap[i]?:=fun i hi hn hv=>(Below.heap_setCell _ _ _ _ hn).trans (hg.block i hi (fun e=>hv e.symm))
 have hsz:W.heap.size≤(W'.setCell ⟨pb,1,none⟩ vX').heap.size:=by simpa[World.setCell] using hg.size
 have hlow:Below pb W (W'.setCell ⟨pb,1,none⟩ vX'):=⟨hg.os,hg.tape,hg.output,hsz,fun i hi=>hbl i (by omega) (by omega) (fun e=>by have:=hvX i e;omega)⟩
 have hv:∀ {B' n' s':Nat} {e':TypeId} {v':Value} {xs':List Value},W.ownsRow B' e' s' v' n' xs'→e'≠42→∀ g,v'.ownBlock=some g→vX.ownBlock≠some g:=fun h' hne g hg e=>by
  obtain⟨cur,e1⟩:=own_type h.own.row e;obtain⟨cur',e2⟩:=own_type h' hg;rw[e1] at e2;injection e2 with e2
  injection e2 with _ e3
  exact hne e3.symm
 obtain⟨xs,r1,e1,e2⟩:=h.rd.own.ex;have hbk:=hbl b (by omega) (by omega) (fun e=>by have:=hvX b e;omega)
 have hd:RdC b (W'.setCell ⟨pb,1,none⟩ vX') A n c l vN ns k o sf ms vM:=
  h.rd.same (fun j=>World.cell?_of_block (a:=⟨b,j,none⟩) hbk) (fun j _=>World.frozen?_of_block (a:=⟨b,j,none⟩) hbk) (hlow.mono (by omega)) ⟨⟨xs,row_kept r1 fun g hgg=>hbl g (r1.lt g hgg).2 (fun e=>h.se.2 (by rw[←e];exact hgg)) (hv r1 (by decide) g hgg),e1,e2⟩⟩
 have hbx:BoxP W' pb [.int .i64 cap,vX]:=h.pbox.block (hg.block pb q3 (fun e=>by have:=hvX pb e.symm;omega));have hkid:∀ {v':Value} {es':List EdP} {B':Nat},OwnE B' W v' es'→pb+1≤B'→OwnE (pb+1) (W'.setCell ⟨pb,1,none⟩ vX') v' es':=fun h' hB=>own_lowP (row_kept h' fun g hgg=>hbl g (h'.lt g hgg).2 (by have:=(h'.lt g hgg).1;omega) (hv h' (by decide) g hgg)) hB
 have hws:=h.went.far.size;refine⟨hd,⟨⟨hg.os.trans h.went.far.os,hg.tape.trans h.went.far.tape,hg.output.trans h.went.far.output,Nat.le_trans hws hsz,fun i hi hb hn hn2=>(hbl i (by omega) (by omega) (fun e=>by have:=hvX i e;omega)).trans (h.went.far.block i hi hb hn hn2)⟩,h.went.fM⟩,h.hb,h.hr,h.hx,h.rbox.block (hbl rb (by omega) (by omega) (fun e=>by have:=hvX rb e;omega)),hbx.set 1 (by simp) vX',h.se,⟨?_,fun y hy=>?_,?_⟩⟩
 ·rw[cellsX_app,List.length_append]
  have e1:cellsX [(x,vE)]=[.string ⟨x.name.toArray⟩,.bool x.echo,vE]:=by unfold cellsX cellX;simp
  rw[e1];exact row_kept hr fun g hgg=>Below.heap_setCell _ _ _ _ (by have:=hvX' g hgg;show g≠pb;omega)
 ·rcases List.mem_append.1 hy with hy | hy
  ·exact hkid (h.own.kids y hy) (Nat.le_refl _)
  ·rw[List.mem_singleton] at hy
   subst hy;exact hkid hE hB
 ·rw[List.pairwise_append]
  refine⟨h.own.ap,List.pairwise_singleton _ _,fun y hy z hz g hg e=>?_⟩;rw[List.mem_singleton] at hz;subst hz;have h1:=hold y hy g hg;have h2:=(hE.lt g e).1;omega
theorem PeC.grown_box (h:PeC b rb pb w W A n c l vN ns k o sf ms vM0 vM cap vX q) (hg:W.grownBy W' vX.ownBlock):BoxP W' pb [.int .i64 cap,vX]:=h.pbox.block (hg.block pb h.at_.2.2.2 (fun e=>by have:=(h.own.row.lt pb e.symm).1;omega))
theorem PeC.len (h:PeC b rb pb w W A n c l vN ns k o sf ms vM0 vM cap vX q):∃ A' c',vX= .slice A' q.length c':=by
 rcases h.own.row.2 with ⟨rfl,e⟩ | ⟨g,cap,cur,rfl,_⟩
 ·exact⟨_,_,by rw[e]⟩
 ·exact⟨_,_,rfl⟩
theorem PeC.fin (h:PeC b rb pb w W A n c l vN ns k o sf ms vM0 vM cap vX q) (u0 u1:Value):RdC b ((W.setCell ⟨rb,0,none⟩ u0).setCell ⟨rb,1,none⟩ u1) A n c l vN ns k o sf ms vM∧WentC b w vM0 vM ((W.setCell ⟨rb,0,none⟩ u0).setCell ⟨rb,1,none⟩ u1)∧OwnXs w.heap.size ((W.setCell ⟨rb,0,none⟩ u0).setCell ⟨rb,1,none⟩ u1) vX q:=by
 obtain⟨q0,q1,q2,q3⟩:=h.at_
 have hbl:∀ i,i≠rb→((W.setCell ⟨rb,0,none⟩ u0).setCell ⟨rb,1,none⟩ u1).heap[i]?=W.heap[i]?:=fun i hi=>(Below.heap_setCell _ _ _ _ hi).trans (Below.heap_setCell _ _ _ _ hi)
 refine⟨(h.rd.other (a:=⟨rb,0,none⟩) (by show b<rb;omega) h.se.1 _).other (a:=⟨rb,1,none⟩) (by show b<rb;omega) h.se.1 _,⟨⟨h.went.far.os,h.went.far.tape,h.went.far.output,by simpa[World.setCell] using h.went.far.size,fun i hi hb hn hn2=>(hbl i (by omega)).trans (h.went.far.block i hi hb hn hn2)⟩,h.went.fM⟩,?_⟩;have hk:=h.own.keep (w':=(W.setCell ⟨rb,0,none⟩ u0).setCell ⟨rb,1,none⟩ u1) fun g hg=>hbl g (by have:=(h.own.lt g hg).1;omega)
 exact⟨own_lowP hk.row (by omega),fun x hx=>own_lowP (hk.kids x hx) (by omega),hk.ap⟩
end
def restC (l:List Tok) (ns:List Bs) (cap:Int) (N:Nat) (met:List Bs) (k:Nat):Rp (List PlP):=if met=[]∨k<l.length then cplaces l ns cap N met k else .ok [] k [] []
theorem places_more (cap:Int) (N k:Nat) (met:List Bs):cplaces l ns cap (N+1) met k=(demP (decide ((met.length:Int)<16)) 9 k).then fun _ _=>(cplace l ns cap met k).then fun x i=>(restC l ns cap N (met++[x.name]) i).then fun xs m=> .ok (x::xs) m [] []:=by
 rw[cplaces,dem_ok]
 have:(decide (16≤met.length))= !decide ((met.length:Int)<16):=by
  by_cases c:met.length<16
  ·rw[decide_eq_false (by omega),decide_eq_true (by omega)];rfl
  ·rw[decide_eq_true (by omega),decide_eq_false (by omega)];rfl
 rw[this,met_then]
 congr 1
 congr 1
 funext x i
 unfold restC;by_cases c:i<l.length
 ·rw[if_pos c,if_pos (.inr c)]
 ·rw[if_neg c,if_neg (by rintro(e | e);simp at e;exact c e)]
  rfl
theorem geR_edges (cap:Int):∀ (N m k i:Nat),k≤i→GeR k (cedges l ns cap N m i)
 | 0,_,_,_,_=>fun _ _ _ _ e=>by cases e
 | N+1,m,k,i,h=>by
   unfold cedges
   split
   ·exact geR_ok _ _ _ _ (by omega)
   ·refine geR_then (fun y j s g e=>?_) fun _ j hj=>geR_then (geR_edges cap N _ _ _ hj) fun _ _ h=>geR_ok _ _ _ _ h
    cases hq:cedge l ns cap i with
    | bad j=>rw[hq] at e;cases e
    | ok y' j' s' g'=>
      rw[hq] at e;injection e with _ e
      have:=geR_edge cap i _ _ _ _ hq;omega
theorem geR_place (cap:Int) (met:List Bs) (k:Nat):GeR (k+1) (cplace l ns cap met k):=by
 refine geR_then (fun _ _ _ _ e=>by have:=(need_ok e).1;omega) fun _ i h=>geR_then (geR_then (geR_name _ h) fun _ _ h=>geR_ok _ _ _ _ h) fun _ j h=>geR_then (fun _ _ _ _ e=>?_) fun _ _ h=>geR_then (geR_need _ _ _ h) fun _ _ h=>geR_then (geR_edges cap _ _ _ _ h) fun _ _ h=>geR_ok _ _ _ _ h
 have:=echo_j e;omega
theorem ccap_parts (k:Nat):ccap l k=(demP (decide (1≤(nxp l k).n∧(nxp l k).n≤16)) 2 k).then fun _ k=>(takeP l 2 k).then fun t j=> .ok t.n j [] []:=by
 rw[dem_ok];unfold ccap takeP
 split
 ·show Rp.ok (nxp l k).n (k+1) ([]++(if decide ((nxp l k).n<1∨16<(nxp l k).n)=true then [(k,2)] else [])) []=Rp.ok (nxp l k).n (k+1) ((if (!decide (1≤(nxp l k).n∧(nxp l k).n≤16))=true then [(k,2)] else [])++[]) []
  rw[List.nil_append,List.append_nil]
  congr 1
  by_cases h:1≤(nxp l k).n∧(nxp l k).n≤16
  ·rw[decide_eq_true h,decide_eq_false (by omega)];rfl
  ·rw[decide_eq_false h,decide_eq_true (by omega)];rfl
 ·rfl
theorem cmaycap_any (z:Int) (w:World):Calls Tryz.prog 22 #[.int .i64 z] w fun e w'=>e= .returned (.bool (decide (1≤z∧z≤16)))∧w=w':=by
 by_cases h1:1≤z
 ·by_cases h2:z≤16
  ·have e:decide (1≤z∧z≤16)=true:=decide_eq_true ⟨h1,h2⟩
   rw[e];go_enter Tryz.func22,Tryz.ntmps22;go_wp2;go_ret;exact⟨by simp,rfl⟩
  ·have e:decide (1≤z∧z≤16)=false:=decide_eq_false fun h=>h2 h.2
   rw[e];go_enter Tryz.func22,Tryz.ntmps22;go_wp2;go_ret;exact⟨by simp,rfl⟩
 ·have e:decide (1≤z∧z≤16)=false:=decide_eq_false fun h=>h1 h.1
  rw[e];go_enter Tryz.func22,Tryz.ntmps22;go_wp2;go_ret;exact⟨by simp,rfl⟩
end
end
end Go.Proofs.YtdobinjbejagcaaGreatDoor
