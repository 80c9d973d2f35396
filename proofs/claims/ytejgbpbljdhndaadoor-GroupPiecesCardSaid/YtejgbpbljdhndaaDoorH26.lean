import Derived.Test.YtejgbpbljdhndaaDoorH23
namespace Go.Proofs.YtejgbpbljdhndaaDoor
open Go Go.RowKit
section
set_option linter.unusedSimpArgs false
set_option linter.unusedVariables false
theorem FoundOk.up {c:Cx} {w w':World} {part p0:Nat} {f:Way1} (h:FoundOk c w part p0 f) (htp:∀ p l,TrailP w p l→TrailP w' p l):FoundOk c w' part p0 f:=by
 obtain⟨a,l,e,nd,b,d⟩:=h;exact⟨a,l,e,nd,htp _ _ b,d⟩
theorem z1f {w w':World} (hb:Below w.heap.size w w'):∀ p l,TrailP w p l→TrailP w' p l:=fun _ _ ht=>ht.keep (S:=fun _=>False) (.of_below hb) fun _ q=>q.elim
def RaGot (c:Cx) (nd:Nd) (t:Trk) (w:World) (O:Tab) (j:Nat) (st:Int) (u:Option Addr):Prop:=∃ o1 f,O (nd.kids.headD 0) t.x.place=some o1∧o1.found[j]?=some f∧st=(f.stop:Nat)∧ .pointer u=pv f.tl∧FoundOk c w (nd.kids.headD 0) t.x.place f∧j+1≤64
def RaEnd (c:Cx) (nd:Nd) (t:Trk) (O:Tab):Prop:=∀ kd k,c.T[nd.kids.headD 0]?=some kd→Way c.bs true true kd.r t.x.place k→k≤c.lim→timeQ nd t.x k=true→∃ (i':Nat) (f:Way1) (o1:WO),O (nd.kids.headD 0) t.x.place=some o1∧i'<t.tried∧o1.found[i']?=some f∧f.stop=k
section
variable {c:Cx} {p i:Nat} {nd:Nd} {t:Trk} {w wr w':World} {O O1 O2:Tab} {X:Array Value} {j:Nat}
structure Bx (B:Nat) (U:World) (O:Tab) (T6:Nat) (Y:Array Value):Prop where
 box:U.heap[T6]?=some (.cells Y 58)
 free:∀ q j o,O q j=some o→¬ o.own T6
 gt:B<T6
theorem Bx.post {B T6:Nat} {Y:Array Value} {Q:Nat} (h:Bx B wr O1 T6 Y) (hi:FInv c (butS p i) wr O1) (hp:Post c Q wr O1 w' O2):Bx B w' O2 T6 Y:=by
 have hs:=(Array.getElem?_eq_some_iff.mp h.box).1;refine⟨?_,fun q j' o' ho hq=>?_,h.gt⟩
 ·rw[hp.fr.block _ hs]
  ·exact h.box
  ·rintro(e | ⟨q,j',o',_,g1,g2⟩)
   ·obtain⟨f,⟨es,clock,k1,_⟩,_⟩:=hi.known
    rw[←e,h.box] at k1;simp at k1
   ·exact h.free q j' o' g1 g2
 ·rcases hp.own q j' o' ho _ hq with ⟨o4,g1,g2⟩ | g1
  ·exact h.free q j' o4 g1 g2
  ·omega
theorem Bx.new (h:FInv c (butS p i) wr O1) (hs:w.heap.size<wr.heap.size) (Y:Array Value):Bx w.heap.size (wr.alloc (.cells Y 58)) O1 wr.heap.size Y:=
 ⟨heap_alloc_new wr _,fun q j o ho hb=>by have:=((h.at_ q j o ho).2.kind hb).2.1;omega,hs⟩
theorem RaI.frm (h:RaI c p i nd t w O X wr O1 j) {T6:Nat} {Y:Array Value} (hx:Bx w.heap.size wr O1 T6 Y) (hm:c.fb<w.heap.size) (hf:Frm (fun k=>k=T6) wr w'):RaI c p i nd t w O X w' O1 j:=by
 have hg:=hx.gt;refine⟨h.inv.frm hf (by omega) hx.free (fun Z hZ=>by rw[hx.box] at hZ;simp at hZ),h.post.frm hf (by omega),h.ge,h.le,?_,h.free,h.seen,h.skip⟩;rw[hf.block _ (Array.getElem?_eq_some_iff.mp h.box).1 (by omega)];exact h.box
def OptB (B:Nat) (U:World) (O:Tab) (T:Option Nat):Prop:=∀ T6,T=some T6→Bx B U O T6 #[.int .i64 0,.pointer none]
theorem x39 (HX:CxOk c) {T:Option Nat} (hbx:OptB w.heap.size wr O1 T) (h:RaI c p i nd t w O X wr O1 j) (hq:p<nd.kids.headD 0) {kd:Nd} (hT:c.T[nd.kids.headD 0]?=some kd) (hpl:t.x.place≤c.lim):
  Calls Tryd.prog 16 #[.pointer (some ⟨c.fb,0,none⟩),.int .i64 (nd.kids.headD 0:Nat),.int .i64 (t.x.place:Nat)] wr fun e w'=>∃ va,e= .returned (.pointer (some ⟨va,0,none⟩))∧
   Hid (∃ O' o',o'.a=va∧RaI c p i nd t w O X w' O' j∧FInv c (geS (nd.kids.headD 0)) w' O'∧O' (nd.kids.headD 0) t.x.place=some o'∧j≤o'.found.length∧OptB w.heap.size w' O' T):=by
 have hql:nd.kids.headD 0<c.T.length:=(List.getElem?_eq_some_iff.mp hT).1;have h1:=HX.len;have h2:=HX.lim;have h3:=HX.size;refine(z74 (by omega) (by omega) (h.inv.up fun q' j' (hq':_≤q')=>⟨by omega,by omega⟩) ⟨kd,hT⟩ hpl).mono fun e w' ⟨va,e1,e2⟩=>⟨va,e1,?_⟩
 obtain⟨O',o',g1,g2,g3,g4⟩:=e2.out;have hS:=h.step hq g3 g2;refine Lib.hid ⟨O',o',g1,hS,g2,g4,?_,fun T6 e=>(hbx T6 e).post h.inv g3⟩
 rcases hS.seen with h0 | ⟨o2,k1,k2⟩
 ·omega
 ·rw[g4] at k1;injection k1 with k1;subst k1;exact k2
theorem x3q (HX:CxOk c) {T:Option Nat} (hbx:OptB w.heap.size wr O1 T) (h:RaI c p i nd t w O X wr O1 j) (hq:p<nd.kids.headD 0) (HN:NthC c (nd.kids.headD 0)) {o1:WO} (hg:FInv c (geS (nd.kids.headD 0)) wr O1) (ho:O1 (nd.kids.headD 0) t.x.place=some o1) (hj:j≤o1.found.length):
  Calls Tryd.prog 17 #[.pointer (some ⟨o1.a,0,none⟩),.int .i64 (j:Nat)] wr fun e w'=>∃ st u ok,e= .returned (.tuple #[.agg #[.int .i64 st,.pointer u],.bool ok])∧
   Hid (∃ O',RaI c p i nd t w O X w' O' j∧(ok=true→RaGot c nd t w' O' j st u)∧(ok=false→RaEnd c nd t O')∧OptB w.heap.size w' O' T):=by
 refine(HN wr O1 _ o1 j hg ho hj).mono fun e w' ⟨st,u,ok,e1,e2⟩=>⟨st,u,ok,e1,?_⟩
 obtain⟨O',o',g1,g2,g3,g4,g5⟩:=e2.out;have hS:=h.step hq g3 g2;have hO:=g2.obj _ _ o' g1 (Nat.le_refl _);obtain⟨hop,_⟩:=g2.at_ _ _ o' g1
 refine Lib.hid ⟨O',hS,fun hok=>?_,fun hok kd k hk hw hl ht=>?_,fun T6 e=>(hbx T6 e).post h.inv g3⟩
 ·obtain⟨f,k1,k2,k3⟩:=g4 hok
  have hjl:=(List.getElem?_eq_some_iff.mp k1).1;have hf:=(hO.fd f (by rw[List.append_nil];exact List.mem_of_getElem? k1)).1;rw[hop] at hf;have hfew:=hO.few;have h2:=HX.lim;have h3:=HX.size;rw[List.append_nil] at hfew;exact⟨o',f,g1,k1,k2,k3,hf,by omega⟩
 ·obtain⟨k1,k2,_⟩:=g5 hok
  obtain⟨f,m1,m2⟩:=hO.all HX.T k1 (by rw[hop];exact hk) hw hl;obtain⟨i',hi'⟩:=List.getElem?_of_mem m1;have hil:=(List.getElem?_eq_some_iff.mp hi').1;refine⟨i',f,o',g1,?_,hi',m2⟩;by_cases hlt:i'<t.tried
  ·exact hlt
  ·have:=hS.skip o' i' f g1 (by omega) (by omega) hi'
   rw[m2,ht] at this;cases this
theorem RaGot.up {st:Int} {u:Option Addr} (h:RaGot c nd t wr O1 j st u) (htp:∀ p l,TrailP wr p l→TrailP w' p l):RaGot c nd t w' O1 j st u:=by
 obtain⟨o1,f,a1,a2,a3,a4,a5,a6⟩:=h;exact⟨o1,f,a1,a2,a3,a4,a5.up htp,a6⟩
theorem x3i (h:RaI c p i nd t w O X wr O1 j) (hm:c.fb<w.heap.size):FInv c (butS p i) (wr.setCell ⟨w.heap.size,5,none⟩ (.int .i64 ((j:Int)+1))) O1∧Post c (p+1) w O (wr.setCell ⟨w.heap.size,5,none⟩ (.int .i64 ((j:Int)+1))) O1∧
  (wr.setCell ⟨w.heap.size,5,none⟩ (.int .i64 ((j:Int)+1))).heap[w.heap.size]?=some (.cells (X.setIfInBounds 5 (.int .i64 ((j:Int)+1))) 89)∧∀ p l,TrailP wr p l→TrailP (wr.setCell ⟨w.heap.size,5,none⟩ (.int .i64 ((j:Int)+1))) p l:=by
 have hfr:Frm (fun k=>k=w.heap.size) wr (wr.setCell ⟨w.heap.size,5,none⟩ (.int .i64 ((j:Int)+1))):=Frm.set (S:=fun k=>k=w.heap.size) (b:=w.heap.size) rfl 5 _ _;have hno:∀ Y,wr.heap[w.heap.size]?≠some (.cells Y 108):=fun Y hY=>by rw[h.box] at hY;simp at hY
 refine⟨h.inv.frm hfr hm h.free hno,h.post.frm hfr (Nat.le_refl _),?_,fun p l ht=>ht.keep hfr fun k hk Y hY=>by subst hk;exact hno Y hY⟩;rw[heap_setCell_same _ _ _ _ _ _ h.box];simp[Array.setIfInBounds_setIfInBounds]
theorem y4z (h:RaI c p i nd t w O X wr O1 j) (hm:c.fb<w.heap.size) (k:Nat) (v:Value):FInv c (butS p i) (wr.setCell ⟨w.heap.size,k,none⟩ v) O1∧Post c (p+1) w O (wr.setCell ⟨w.heap.size,k,none⟩ v) O1:=by
 have hfr:Frm (fun k=>k=w.heap.size) wr (wr.setCell ⟨w.heap.size,k,none⟩ v):=Frm.set (S:=fun k=>k=w.heap.size) (b:=w.heap.size) rfl k _ _;have hno:∀ Y,wr.heap[w.heap.size]?≠some (.cells Y 108):=fun Y hY=>by rw[h.box] at hY;simp at hY
 exact⟨h.inv.frm hfr hm h.free hno,h.post.frm hfr (Nat.le_refl _)⟩
structure Ra2 (c:Cx) (p i:Nat) (nd:Nd) (t:Trk) (w:World) (O:Tab) (o:WO) (st:Int) (u:Option Addr) (O2:Tab) (j:Nat) (v':Value) (Y:Array Value) (U:World):Prop where
 inv:FInv c (butS p i) U (updO O2 p i { o with tv:=v',tr:=o.tr++[{ t with tried:=j+1 }] })
 post:Post c p w O U (updO O2 p i { o with tv:=v',tr:=o.tr++[{ t with tried:=j+1 }] })
 free:∀ q j' o',updO O2 p i { o with tv:=v',tr:=o.tr++[{ t with tried:=j+1 }] } q j'=some o'→¬ o'.own w.heap.size
 tl:∀ l,TrailP w t.tl l→TrailP U t.tl l
 got:RaGot c nd t U O2 j st u
 box:U.heap[w.heap.size]?=some (.cells Y 89)
theorem Ra2.app {o:WO} {st:Int} {u:Option Addr} {v':Value} {Y:Array Value} (ho:O p i=some o) (hw:FInv c (butS p i) w O) (h:RaI c p i nd t w O X wr O1 j) {W V:World} (hi:FInv c (butS p i) W O1) (hp:Post c (p+1) w O W O1) (hgot:RaGot c nd t W O1 j st u)
  (hm:Mt c.fb o W { o with tv:=v',tr:=o.tr++[{ t with tried:=j+1 }] } V) (hY:V.heap[w.heap.size]?=some (.cells Y 89)) (hlt:w.heap.size<W.heap.size):Ra2 c p i nd t w O o st u O1 j v' Y V:=by
 have ho1:O1 p i=some o:=(hp.low p i (by omega)).trans ho;obtain⟨k1,k2⟩:=hi.upd ho1 (fun hb=>hb.2 ⟨rfl,rfl⟩) hm ⟨[],by simp⟩;refine⟨k1,(hp.down (by omega)).trans k2,fun q j' o' h1 hb=>?_,fun l hl=>hi.trails k2 _ _ (hw.trails hp _ _ hl),hgot.up (hi.trails k2),hY⟩
 rcases k2.own q j' o' h1 _ hb with ⟨o3,g1,g2⟩ | g1
 ·exact h.free q j' o3 g1 g2
 ·omega
theorem Ra2.frm {o:WO} {st:Int} {u:Option Addr} {v':Value} {Y Z:Array Value} {U V:World} (h:Ra2 c p i nd t w O o st u O1 j v' Y U) (hf:Frm (fun k=>k=w.heap.size) U V) (hm:c.fb<w.heap.size) (hZ:V.heap[w.heap.size]?=some (.cells Z 89)):Ra2 c p i nd t w O o st u O1 j v' Z V:=by
 have hno:∀ Y,U.heap[w.heap.size]?≠some (.cells Y 108):=fun Y hY=>by rw[h.box] at hY;simp at hY
 have htp:∀ p l,TrailP U p l→TrailP V p l:=fun p l ht=>ht.keep hf fun k hk X hX=>by subst hk;exact hno X hX
 exact⟨h.inv.frm hf hm h.free hno,h.post.frm hf (Nat.le_refl _),h.free,fun l hl=>htp _ _ (h.tl l hl),h.got.up htp,hZ⟩
theorem Ra2.set {o:WO} {st:Int} {u:Option Addr} {v':Value} {Y:Array Value} {U:World} (h:Ra2 c p i nd t w O o st u O1 j v' Y U) (hm:c.fb<w.heap.size) (k:Nat) (v:Value):Ra2 c p i nd t w O o st u O1 j v' (Y.setIfInBounds k v) (U.setCell ⟨w.heap.size,k,none⟩ v):=
 h.frm (Frm.set (S:=fun k=>k=w.heap.size) (b:=w.heap.size) rfl k _ _) hm (heap_setCell_same U w.heap.size k _ 89 v h.box)
theorem Ra2.next {o:WO} {st:Int} {u:Option Addr} {v':Value} {Y:Array Value} {U V:World} (h:Ra2 c p i nd t w O o st u O1 j v' Y U) (hb:Below U.heap.size U V):Ra2 c p i nd t w O o st u O1 j v' Y V:=
 ⟨h.inv.next hb,h.post.trans (.of_below hb),h.free,fun l hl=>z1f hb _ _ (h.tl l hl),h.got.up (z1f hb),by rw[hb.block _ (Array.getElem?_eq_some_iff.mp h.box).1];exact h.box⟩
theorem Ra2.push {o:WO} {st:Int} {u:Option Addr} {v' v2:Value} {Y:Array Value} {tl':Option Nat} {U:World} (h2:Ra2 c p i nd t w O o st u O1 j v' Y U) (hp1:p≠nd.kids.headD 0) (h:RaI c p i nd t w O X wr O1 j) {sp:Nat} (hsp:st=(sp:Nat)) (hq:timeQ nd t.x sp=true)
  (hm:Mt c.fb { o with tv:=v',tr:=o.tr++[{ t with tried:=j+1 }] } U { o with tv:=v2,tr:=o.tr++[{ t with tried:=j+1 }]++[fresh tl' (timeN nd t.x sp)] } w') (htl:∀ l le f',TrailP w t.tl l→ .pointer u=pv f'→TrailP U f' le→∃ l',TrailP U tl' l'∧SameE l' (le++l)) (hl0:∃ l,TrailP w t.tl l):RapOk c p i t nd o w O w':=by
 obtain⟨o1,f,a1,a2,a3,a4,a5,a6⟩:=h2.got;have hsf:sp=f.stop:=by omega
 subst hsf;obtain⟨k1,k2⟩:=h2.inv.upd (z0s _ _ _ _) (fun hb=>hb.2 ⟨rfl,rfl⟩) hm ⟨[],by simp⟩;have htr:=h2.inv.trails k2
 have a1':updO O1 p i { o with tv:=v',tr:=o.tr++[{ t with tried:=j+1 }] } (nd.kids.headD 0) t.x.place=some o1:=by
  rw[z02 _ _ (fun e=>by injection e with e1 _;exact hp1 e1.symm)];exact a1
 obtain⟨o2,m1,_,more,m3⟩:=k2.mono _ _ _ a1';have hjl:=(List.getElem?_eq_some_iff.mp a2).1;refine⟨_,v2,[{ t with tried:=j+1 },fresh tl' (timeN nd t.x f.stop)],(z0s _ _ _ _).trans (by simp),k1,h2.post.trans k2,.inl ⟨o2,j+1,f,tl',m1,?_,a6,?_,hq,fun i' g h1 h2 hg=>?_,a5.up htr,rfl,fun l le h1 h3=>?_⟩⟩
 ·have:=h.ge;omega
 ·rw[m3,List.getElem?_append_left (by simpa using hjl)];simpa using a2
 ·rw[m3,List.getElem?_append_left (by omega)] at hg
  exact h.skip o1 i' g a1 h1 (by omega) hg
 ·obtain⟨l0,hl0⟩:=hl0
  obtain⟨_,le0,_,_,hle0,_⟩:=a5;have e1:=(htr _ _ (h2.tl _ hl0)).det h1;have e2:=(htr _ _ hle0).det h3;subst e1 e2;obtain⟨l',g1,g2⟩:=htl _ _ f.tl hl0 a4 hle0;exact⟨l',htr _ _ g1,g2⟩
theorem y2l {o:WO} {v':Value} {ps:List Trk} (ho:O p i=some o) {W:World} (hi:FInv c (butS p i) W O1) (hp:Post c (p+1) w O W O1) (he:RaEnd c nd t O1) (hm:Mt c.fb o W { o with tv:=v',tr:=o.tr++ps } w') (hps:ps=(if nd.r.lo≤((t.x.done - 2:Nat):Int) then [fresh t.tl { t.x with done:=1 }] else [])):RapOk c p i t nd o w O w':=by
 have ho1:O1 p i=some o:=(hp.low p i (by omega)).trans ho;obtain⟨k1,k2⟩:=hi.upd ho1 (fun hb=>hb.2 ⟨rfl,rfl⟩) hm ⟨[],by simp⟩;refine⟨_,v',ps,z0s _ _ _ _,k1,(hp.down (by omega)).trans k2,.inr ⟨hps,fun kd k h1 h2 h3 h4=>?_⟩⟩;obtain⟨i',f,o1,g1,g2,g3,g4⟩:=he kd k h1 h2 h3 h4;obtain⟨o2,m1,_,more,m3⟩:=k2.mono _ _ _ g1;have hl:=(List.getElem?_eq_some_iff.mp g3).1;exact⟨i',f,o2,m1,g2,by rw[m3,List.getElem?_append_left (by omega)];exact g3,g4⟩
end
end
section
set_option linter.unusedSimpArgs false
set_option linter.unusedVariables false
theorem x0y:∀ l:List Trk,l.length≤(l.map wt).sum
 | []=>by simp
 | t::l=>by
   have:=x0y l;have h1:1≤wt t:=by unfold wt;split <;> omega
   simp only[List.map_cons,List.sum_cons,List.length_cons];omega
theorem x0h {c:Cx} (HX:CxOk c) {w:World} {O:Tab} {o:WO} {i:Nat} {ex:List Way1} (h:OInv c w O o i ex):o.tr.length≤900000000000:=by
 have h1:=x0y o.tr;have h2:=h.ms;unfold meas at h2
 have h3:topS c.T.length c.lim≤6400000000:=by
  have a:=HX.len;have b:=HX.lim;have d:=HX.size;unfold topS;have e:c.lim+1≤61:=by omega
  exact Nat.le_trans (Nat.mul_le_mul_right 9 (Nat.mul_le_mul (Nat.mul_le_mul (Nat.mul_le_mul_right 11 a) e) (Nat.succ_le_succ a))) (by decide)
 omega
theorem x1k {T:List Nd} {s:Bs} {n0 p0:Nat} (hT:TabF T) {p x k:Nat} {l:Evs} (h:PreD T s n0 p0 p x k l) (hne:p≠n0) {nd:Nd} (hn:T[p]?=some nd):
  p≠0∧(∃ pd,n0≤nd.par∧T[nd.par]?=some pd∧(pd.r.kind=4∨pd.r.kind=5∨pd.r.kind=6∨pd.r.kind=7))∧(nd.nx≠0→∃ xd,T[nd.nx]?=some xd∧xd.par=nd.par∧n0<nd.nx):=by
 have up:∀ {p' i' c' k':Nat} {l':Evs} {pd:Nd},PreD T s n0 p0 p' i' c' l'→T[p']?=some pd→pd.kids[k']?=some p→(pd.r.kind=4∨pd.r.kind=5∨pd.r.kind=6∨pd.r.kind=7)→p≠0∧(∃ pd,n0≤nd.par∧T[nd.par]?=some pd∧(pd.r.kind=4∨pd.r.kind=5∨pd.r.kind=6∨pd.r.kind=7))∧(nd.nx≠0→∃ xd,T[nd.nx]?=some xd∧xd.par=nd.par∧n0<nd.nx):=fun {p' i' c' k' l' pd} q1 q2 q3 q4=>by
  have hge:=z5o hT q1;obtain⟨nd',e1,_,e3,e4,e5⟩:=hT.kid q2 q3;rw[hn] at e1;injection e1 with e1;subst e1
  refine⟨by omega,⟨pd,by omega,by rw[e3];exact q2,q4⟩,fun hx=>?_⟩;rw[e4] at hx
  split at hx
  ·rename_i hh
   have hk:pd.kids[k'+1]?=some (pd.kids.getD (k'+1) 0):=by
    rw[List.getD_eq_getElem?_getD,List.getElem?_eq_getElem hh.2];rfl
   obtain⟨xd,f1,_,f3,_,f5⟩:=hT.kid q2 hk;rw[if_pos hh] at e4;rw[e4];exact⟨xd,f1,by rw[f3,e3],by omega⟩
  ·exact absurd rfl hx
 cases h with
 | root=>exact absurd rfl hne
 | cat q1 q2 q3 q4 _=>exact up q1 q2 q4 (.inl q3)
 | alt q1 q2 q3 q4=>exact up q1 q2 q4 (.inr (.inl q3))
 | grp q1 q2 q3 q4=>exact up q1 q2 q4 (.inr (.inr (.inr q3)))
 | rep q1 q2 q3 _ q4 _ _ _=>exact up q1 q2 q4 (.inr (.inr (.inl q3)))
theorem y9j {T:List Nd} {s:Bs} {n0 p0:Nat} (hT:TabF T) {x:Spo} {l:Evs} (h:HoldS T s n0 p0 x l) (hd:x.done=1) (hne:x.part≠n0) {nd:Nd} (hn:T[x.part]?=some nd):
  x.part≠0∧(∃ pd,n0≤nd.par∧T[nd.par]?=some pd∧(pd.r.kind=4∨pd.r.kind=5∨pd.r.kind=6∨pd.r.kind=7))∧(nd.nx≠0→∃ xd,T[nd.nx]?=some xd∧xd.par=nd.par∧n0<nd.nx):=by
 obtain⟨l0,⟨nd',_,h⟩,_⟩:=h
 rcases h with ⟨h1,_⟩ | ⟨_,i,l0,l1,h1,_⟩ | ⟨h1,_⟩
 ·omega
 ·exact x1k hT h1 hne hn
 ·omega
theorem y9m {T:List Nd} {s:Bs} {n0 p0:Nat} {x:Spo} {l:Evs} (h:HoldS T s n0 p0 x l) (hd:2≤x.done) {nd:Nd} (hn:T[x.part]?=some nd):nd.r.kind=6:=by
 obtain⟨l0,⟨nd',e,h⟩,_⟩:=h;rw[hn] at e;injection e with e;subst e
 rcases h with ⟨h1,_⟩ | ⟨h1,_⟩ | ⟨_,h1,_⟩
 ·omega
 ·omega
 ·exact h1
structure Pop (c:Cx) (p i:Nat) (wr:World) (O1:Tab) (o1:WO) (pre:List Trk) (t:Trk) (W2:World) (o2:WO):Prop where
 h:FInv c (butS p i) wr O1
 ho:O1 p i=some o1
 oi:OInv c wr O1 o1 i []
 htr:o1.tr=pre++[t]
 mt:Mt c.fb o1 wr o2 W2
 tr2:o2.tr=pre
 C2:∀ y,o2.C y ↔ o1.C y∨y=t.x
 f2:o2.found=o1.found
 mp2:o2.mp=o1.mp
 hc:(t.tried=0∧¬ o1.C t.x)∨0<t.tried
def Nxt (c:Cx) (p i:Nat) (wr:World) (O1:Tab) (o1:WO) (w':World):Prop:=∃ O' o',O' p i=some o'∧FInv c (butS p i) w' O'∧Post c p wr O1 w' O'∧OInv c w' O' o' i []∧o'.found=o1.found∧meas c o'<meas c o1
section
variable {c:Cx} {p i:Nat} {wr W2 w':World} {O1:Tab} {o1 o2 o':WO} {pre:List Trk} {t:Trk}
theorem Pop.done (h:Pop c p i wr O1 o1 pre t W2 o2) (hm:Mt c.fb o2 W2 o' w') (hf:o'.found=o2.found) (hx:∀ (_:WaysAt c.fb w' o') (_:o'.part=o1.part) (_:∀ p l,TrailP wr p l→TrailP w' p l),Next c wr O1 o1 i o' w' O1 []):Nxt c p i wr O1 o1 w':=by
 have hm2:=h.mt.trans hm;have hfd:o'.found=o1.found:=hf.trans h.f2;obtain⟨k1,k2⟩:=h.h.upd h.ho (fun hb=>hb.2 ⟨rfl,rfl⟩) hm2 ⟨[],by rw[hfd];simp⟩;have hN:=hx hm2.at_ hm2.part (h.h.trails k2)
 exact⟨_,o',z0s _ _ _ _,k1,k2,hN.inv.keep hm2.at_ (fun _ _ q=>q) k2.mono,hfd,hN.less⟩
theorem Pop.tk (h:Pop c p i wr O1 o1 pre t W2 o2):TrkOk c wr o1.part i t:=h.oi.tk t (by rw[h.htr];simp)
theorem Pop.part (h:Pop c p i wr O1 o1 pre t W2 o2):o1.part=p:=(h.h.at_ p i o1 h.ho).1
theorem Pop.fin (h:Pop c p i wr O1 o1 pre t W2 o2):FinAt c W2:=h.h.fin.mt (h.h.at_ p i o1 h.ho).2 h.mt
theorem Pop.len (h:Pop c p i wr O1 o1 pre t W2 o2) (HX:CxOk c):o2.tr.length≤900000000000:=by
 have:=x0h HX h.oi;rw[h.htr] at this;rw[h.tr2];simp at this;omega
theorem y1r (HX:CxOk c) (h:Pop c p i wr O1 o1 pre t W2 o2) (hd:t.x.done=1) (hne:t.x.part≠o1.part) (hnc:¬ o1.C t.x):
  Calls Tryd.prog 43 #[.pointer (some ⟨o2.a,0,none⟩),trkV t] W2 fun e w'=>e= .returned (.tuple #[])∧Hid (Nxt c p i wr O1 o1 w'):=by
 obtain⟨⟨l,hl1,hl2⟩,hmv,hpl⟩:=h.tk;obtain⟨nd,hn⟩:∃ nd,c.T[t.x.part]?=some nd:=by obtain⟨_,⟨nd,a,_⟩,_⟩:=hl2;exact⟨nd,a⟩
 obtain⟨hp0,⟨pd,hge,hpd,hkd⟩,hnx⟩:=y9j HX.T hl2 hd hne hn;have hcn:t.x.count≤1000000:=by have:=(h.tk.bd HX.T).1.count;omega
 have h1:Calls Tryd.prog 43 #[.pointer (some ⟨o2.a,0,none⟩),trkV t] W2 (EntPost c o2 t (leaN c.T nd t.x) W2):=by
  by_cases hx:nd.nx≠0
  ·exact x3h t nd h.fin h.mt.at_ (h.len HX) hn hx
  ·have hx0:nd.nx=0:=by omega
   rcases hkd with hk | hk | hk | hk
   ·exact x33 t nd h.fin h.mt.at_ (h.len HX) hn hp0 hx0 hpd hk
   ·exact x37 t nd h.fin h.mt.at_ (h.len HX) hn hp0 hx0 hpd hk
   ·by_cases hm:t.x.mover=(nd.par:Int)
    ·exact x1b t nd h.fin h.mt.at_ (h.len HX) hn hp0 hx0 hpd hk hm
    ·exact x1g t nd h.fin h.mt.at_ (h.len HX) hn hp0 hx0 hpd hk hm hcn (HX.T.fine hpd) (HX.T.len hpd)
   ·exact x31 t nd h.fin h.mt.at_ (h.len HX) hn hp0 hx0 hpd hk (HX.num _ _ hpd hk)
 refine h1.mono fun e w' ⟨e1,e2⟩=>⟨e1,?_⟩
 obtain⟨v',tl',m1,m2⟩:=e2.out;have htp:∀ l,TrailP wr t.tl l→TrailP W2 t.tl l:=fun l hl=>hl.keep h.mt.fr (h.h.at_ p i o1 h.ho).2.noMark
 exact Lib.hid (h.done m1 rfl fun a1 a2 a3=>x1e HX.T h.oi h.htr hnc hd hne hn ⟨pd,by rw[h.part] at hge ⊢;exact hge,hpd⟩ (fun hx=>hnx hx) a1 a2 h.C2 (by show o2.tr++_=_;rw[h.tr2]) h.f2 h.mp2 a3 (fun l hl=>m2 l (htp l hl)))
theorem y2d (HX:CxOk c) (h:Pop c p i wr O1 o1 pre t W2 o2) (hd:t.x.done=0):
  Calls Tryd.prog 41 #[.pointer (some ⟨o2.a,0,none⟩),trkV t] W2 fun e w'=>e= .returned (.tuple #[])∧Hid (Nxt c p i wr O1 o1 w'):=by
 obtain⟨⟨l,hl1,hl2⟩,hmv,hpl⟩:=h.tk;obtain⟨nd,hn⟩:∃ nd,c.T[t.x.part]?=some nd:=by obtain⟨_,⟨nd,a,_⟩,_⟩:=hl2;exact⟨nd,a⟩
 have hF:=HX.T.fine hn;have hL:=HX.T.len hn;have hkl:=HX.kids _ _ hn;have hls:=HX.lim;have hsz:=HX.size;have htp:∀ l,TrailP wr t.tl l→TrailP W2 t.tl l:=fun l hl=>hl.keep h.mt.fr (h.h.at_ p i o1 h.ho).2.noMark
 by_cases hk5:nd.r.kind=5
 ·have hq:∃ q,nd.kids[t.tried]?=some q:=by
   have:t.tried<nd.kids.length:=by
    rcases h.hc with ⟨h0,_⟩ | h0
    ·have:=hF.cases
     simp only[hk5] at this;obtain⟨x,y,l,e⟩:∃ x y l,nd.r.kids=x::y::l:=by simpa using this
     rw[hL,e,h0];simp
    ·obtain⟨_,_,_,ff,_⟩:=h.oi.tk2 t (by rw[h.htr];simp) h0
     obtain⟨nd',g1,g2,g3⟩:=ff hd;rw[hn] at g1;injection g1 with g1;subst g1
     exact g3
   exact⟨_,List.getElem?_eq_getElem this⟩
  obtain⟨q,hq⟩:=hq;refine(x3d t nd h.fin h.mt.at_ (h.len HX) hn hk5 (by omega) hq).mono fun e w' ⟨e1,e2⟩=>⟨e1,?_⟩
  obtain⟨v',m1⟩:=e2.out;exact Lib.hid (h.done m1 rfl fun a1 a2 a3=>x1t HX.T h.oi h.htr h.hc hd hn hk5 hkl hq HX.bs a1 a2 h.C2 (by show o2.tr++_=_;rw[h.tr2]) h.f2 h.mp2 a3)
 ·have hnc:¬ o1.C t.x:=by
   rcases h.hc with ⟨_,h0⟩ | h0
   ·exact h0
   ·obtain⟨_,_,_,ff,_⟩:=h.oi.tk2 t (by rw[h.htr];simp) h0
    obtain⟨nd',g1,g2,g3⟩:=ff hd;rw[hn] at g1;injection g1 with g1;subst g1
    exact absurd g2 hk5
  have kid0:0<nd.kids.length→∃ q,nd.kids[0]?=some q:=fun h0=>⟨_,List.getElem?_eq_getElem h0⟩
  have h1:Calls Tryd.prog 41 #[.pointer (some ⟨o2.a,0,none⟩),trkV t] W2 (EntPost c o2 t (entN c.s.data.toList c.lim nd t.x) W2):=by
   rcases hF.cases with ⟨hk,_⟩ | ⟨hk,_⟩ | ⟨hk,_⟩ | ⟨hk,_⟩ | ⟨hk,x,y,l,e⟩ | ⟨hk,_⟩ | ⟨hk,_⟩ | ⟨hk,x,e⟩
   ·exact x3c t nd h.fin h.mt.at_ (h.len HX) hn hk
   ·by_cases hz:c.lim≤t.x.place
    ·exact x2i t nd h.fin h.mt.at_ (h.len HX) hn hk hz
    ·cases hh:hasQ c.s.data.toList nd.r t.x.place with
     | false=>exact x2k t nd h.fin h.mt.at_ (h.len HX) hn hk (by omega) hls (by omega) hh
     | true=>exact x1h t nd h.fin h.mt.at_ (h.len HX) hn hk (by omega) hls (by omega) hh
   ·by_cases hz:t.x.place=0
    ·exact x0z t nd h.fin h.mt.at_ (h.len HX) hn hk hz
    ·exact x14 t nd h.fin h.mt.at_ (h.len HX) hn hk (by omega)
   ·by_cases hz:c.s.size≤t.x.place
    ·exact x1a t nd h.fin h.mt.at_ (h.len HX) hn hk hz
    ·exact x2f t nd h.fin h.mt.at_ (h.len HX) hn hk (by omega)
   ·obtain⟨q,hq⟩:=kid0 (by rw[hL,e];simp)
    exact x29 t nd h.fin h.mt.at_ (h.len HX) hn hk hq (by omega)
   ·exact absurd hk hk5
   ·exact x3u t nd h.fin h.mt.at_ (h.len HX) hn hk hF hL
   ·obtain⟨q,hq⟩:=kid0 (by rw[hL,e];simp)
    exact x4f t nd h.fin h.mt.at_ (h.len HX) hn hk hq (by omega) (HX.num _ _ hn hk)
  refine h1.mono fun e w' ⟨e1,e2⟩=>⟨e1,?_⟩
  obtain⟨v',tl',m1,m2⟩:=e2.out;exact Lib.hid (h.done m1 rfl fun a1 a2 a3=>x04 HX.T h.oi h.htr hnc hd hn hk5 HX.bs a1 a2 h.C2 (by show o2.tr++_=_;rw[h.tr2];rfl) h.f2 h.mp2 a3 (fun l hl=>m2 l (htp l hl)))
end
end
end Go.Proofs.YtejgbpbljdhndaaDoor
