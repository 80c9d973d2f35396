import Derived.Test.YtdobinjbejagcaaGreatDoorPd14
import Derived.Test.YtdobinjbejagcaaGreatDoorPp0
import Derived.Test.YtdobinjbejagcaaGreatDoorPlainC
import Derived.Test.YtdobinjbejagcaaGreatDoorTkO
import Derived.Deep.RegionHeld3
import Derived.Deep.DeepMust
import Derived.Deep.CutRange
namespace Go.Proofs.YtdobinjbejagcaaGreatDoor
open Go Go.RowKit
section
def cellE (e:EdP):List Value:=[.int .i64 e.kind,.string ⟨e.text.toArray⟩,.int .i64 e.lo,.int .i64 e.hi,.int .i64 e.to]
def cellsE (es:List EdP):List Value:=es.flatMap cellE
abbrev Pv:=PlP × Value
def cellX (x:Pv):List Value:=[.string ⟨x.1.name.toArray⟩,.bool x.1.echo,x.2]
def cellsX (q:List Pv):List Value:=q.flatMap cellX
theorem cellsE_app (a b:List EdP):cellsE (a++b)=cellsE a++cellsE b:=List.flatMap_append
theorem cellsX_app (a b:List Pv):cellsX (a++b)=cellsX a++cellsX b:=List.flatMap_append
abbrev OwnE (B:Nat) (w:World) (v:Value) (es:List EdP):Prop:=w.ownsRow B 39 5 v es.length (cellsE es)
structure OwnXs (B:Nat) (w:World) (v:Value) (q:List Pv):Prop where
 row:w.ownsRow B 42 3 v q.length (cellsX q)
 kids:∀ x∈q,OwnE B w x.2 x.1.edges
 ap:q.Pairwise fun x y=>∀ g,x.2.ownBlock=some g→y.2.ownBlock≠some g
def HasX (v:Value) (q:List Pv) (g:Nat):Prop:=v.ownBlock=some g∨∃ x∈q,x.2.ownBlock=some g
section
variable {B:Nat} {w w':World} {v:Value} {q:List Pv}
theorem OwnXs.keep (h:OwnXs B w v q) (hk:∀ g,HasX v q g→w'.heap[g]?=w.heap[g]?):OwnXs B w' v q:=
 ⟨row_kept h.row fun g hg=>hk g (.inl hg),fun x hx=>row_kept (h.kids x hx) fun g hg=>hk g (.inr ⟨x,hx,hg⟩),h.ap⟩
theorem OwnXs.lt (h:OwnXs B w v q):∀ g,HasX v q g→B≤g∧g<w.heap.size:=by
 intro g hg
 rcases hg with hg | ⟨x,hx,hg⟩
 ·exact h.row.lt g hg
 ·exact(h.kids x hx).lt g hg
theorem own_type {w:World} {B s n:Nat} {e:TypeId} {v:Value} {xs:List Value} (h:w.ownsRow B e s v n xs) {g:Nat} (hg:v.ownBlock=some g):∃ cur,w.heap[g]?=some (.cells cur e (0,0)):=by
 rcases h.2 with ⟨rfl,_⟩ | ⟨g',cap,cur,rfl,_,hh,_⟩
 ·cases hg
 ·injection hg with hg;subst hg;exact⟨cur,hh⟩
theorem OwnXs.typ (h:OwnXs B w v q) {g:Nat} (hg:HasX v q g):∃ cur T,w.heap[g]?=some (.cells cur T (0,0))∧(T=42∨T=39):=by
 rcases hg with hg | ⟨x,hx,hg⟩
 ·obtain⟨cur,e⟩:=own_type h.row hg
  exact⟨cur,_,e,.inl rfl⟩
 ·obtain⟨cur,e⟩:=own_type (h.kids x hx) hg
  exact⟨cur,_,e,.inr rfl⟩
theorem OwnXs.nil (B:Nat) (w:World):OwnXs B w (.slice none 0 0) []:=⟨World.ownsRow_nil _ _ _ _,by simp,List.Pairwise.nil⟩
theorem OwnXs.ne {B' n' s':Nat} {e':TypeId} {v':Value} {xs':List Value} (h:OwnXs B w v q) (h':w.ownsRow B' e' s' v' n' xs') (h1:e'≠42) (h2:e'≠39) {g:Nat} (hg:HasX v q g):v'.ownBlock≠some g:=fun e=>by
 obtain⟨cur,T,e1,hT⟩:=h.typ hg;obtain⟨cur',e2⟩:=own_type h' e;rw[e1] at e2;injection e2 with e2
 injection e2 with _ e3
 rcases hT with rfl | rfl
 ·exact h1 e3.symm
 ·exact h2 e3.symm
end
structure PaP (w:World) (b pb:Nat) (W:World) (S:ByteArray) (A:Option Addr) (n c:Nat) (l:List Tok) (k o:Nat) (sf:Sf) (gs:Gs) (qq:Nat) (vN vG:Value) (cap:Int) (vX:Value) (q:List Pv):Prop where
 rd:DocP b W S A n c l k o sf gs qq vN vG
 low:Below w.heap.size w W
 hb:w.heap.size≤b
 hp:b<pb
 box:BoxP W pb [.int .i64 cap,vX]
 se:vN.ownBlock≠some pb∧vG.ownBlock≠some pb
 own:OwnXs (pb+1) W vX q
section
variable {w W W':World} {b pb:Nat} {S:ByteArray} {A:Option Addr} {n c:Nat} {l:List Tok} {k o k' o':Nat} {sf sf':Sf} {gs gs':Gs} {qq qq':Nat} {vN vG vN' vG':Value} {cap:Int} {vX:Value} {q:List Pv}
theorem FarP.low {B:Nat} (h:FarP b vN vG W W') (hB:B≤b) (hw:B≤W.heap.size) (hN:∀ g,vN.ownBlock=some g→b<g) (hG:∀ g,vG.ownBlock=some g→b<g):Below B W W':=
 ⟨h.os,h.tape,h.output,h.size,fun i hi=>h.block i (by omega) (by omega) (fun e=>by have:=hN i e;omega) (fun e=>by have:=hG i e;omega)⟩
theorem PaP.at_ (h:PaP w b pb W S A n c l k o sf gs qq vN vG cap vX q):pb<W.heap.size∧w.heap.size≤W.heap.size:=⟨h.box.lt (by simp),h.low.size⟩
theorem PaP.kept (h:PaP w b pb W S A n c l k o sf gs qq vN vG cap vX q) (hd:DocP b W' S A n c l k' o' sf' gs' qq' vN' vG') (hlow:Below w.heap.size W W') (hbk:W'.heap[pb]?=W.heap[pb]?) (hse:vN'.ownBlock≠some pb∧vG'.ownBlock≠some pb) (hx:∀ g,HasX vX q g→W'.heap[g]?=W.heap[g]?):PaP w b pb W' S A n c l k' o' sf' gs' qq' vN' vG' cap vX q:=
 ⟨hd,h.low.trans hlow,h.hb,h.hp,h.box.block hbk,hse,h.own.keep hx⟩
theorem PaP.went (h:PaP w b pb W S A n c l k o sf gs qq vN vG cap vX q) (hw:WentP b W S A n c l vN vG k' o' sf' gs' qq' vN' vG' W'):PaP w b pb W' S A n c l k' o' sf' gs' qq' vN' vG' cap vX q:=by
 obtain⟨hpl,hwl⟩:=h.at_
 have hbb:=h.hb;have hbp:=h.hp;have hab:=h.rd.own.above;obtain⟨ns,ats,r1,r2, -⟩:=h.rd.own.ex;refine h.kept hw.rd (hw.far.low h.hb hwl (fun g hg=>(hab.1 g hg).1) (fun g hg=>(hab.2 g hg).1)) (hw.far.block pb hpl (by omega) h.se.1 h.se.2) ⟨fun e=>?_,fun e=>?_⟩ fun g hg=>hw.far.block g (h.own.lt g hg).2 (by have:=(h.own.lt g hg).1;omega) (h.own.ne r1 (by decide) (by decide) hg) (h.own.ne r2 (by decide) (by decide) hg)
 ·rcases hw.fN pb e with e | e
  ·exact h.se.1 e
  ·omega
 ·rcases hw.fG pb e with e | e
  ·exact h.se.2 e
  ·omega
theorem PaP.step (h:PaP w b pb W S A n c l k o sf gs qq vN vG cap vX q) (hs:StepP b W S A n c l k' o' sf' gs qq vN vG W'):PaP w b pb W' S A n c l k' o' sf' gs qq vN vG cap vX q:=h.went (.of hs)
theorem PaP.below (h:PaP w b pb W S A n c l k o sf gs qq vN vG cap vX q) (hb:Below W.heap.size W W'):PaP w b pb W' S A n c l k o sf gs qq vN vG cap vX q:=h.step ⟨grnP_below hb,h.rd.low hb⟩
theorem PaP.alloc (h:PaP w b pb W S A n c l k o sf gs qq vN vG cap vX q) (x:Obj):PaP w b pb (W.alloc x) S A n c l k o sf gs qq vN vG cap vX q:=h.below (one_boxP W x)
theorem PaP.len (h:PaP w b pb W S A n c l k o sf gs qq vN vG cap vX q):∃ A' c',vX= .slice A' q.length c':=by
 rcases h.own.row.2 with ⟨rfl,e⟩ | ⟨g,cap,cur,rfl,_⟩
 ·exact⟨_,_,by rw[e]⟩
 ·exact⟨_,_,rfl⟩
end
structure PaE (w:World) (b pb xb:Nat) (W:World) (S:ByteArray) (A:Option Addr) (n c:Nat) (l:List Tok) (k o:Nat) (sf:Sf) (gs:Gs) (qq:Nat) (vN vG:Value) (cap:Int) (vX:Value) (q:List Pv) (nm:ByteArray) (ec:Bool) (vE:Value) (es:List EdP):Prop where
 pa:PaP w b pb W S A n c l k o sf gs qq vN vG cap vX q
 hx:pb<xb
 box:BoxP W xb [.string nm,.bool ec,vE]
 se:vN.ownBlock≠some xb∧vG.ownBlock≠some xb
 old:∀ g,HasX vX q g→g<xb
 row:OwnE (xb+1) W vE es
section
variable {w W W':World} {b pb xb:Nat} {S:ByteArray} {A:Option Addr} {n c:Nat} {l:List Tok} {k o k' o':Nat} {sf sf':Sf} {gs gs':Gs} {qq qq':Nat} {vN vG vN' vG':Value} {cap:Int} {vX:Value} {q:List Pv} {nm:ByteArray} {ec:Bool} {vE:Value} {es:List EdP}
theorem PaP.enter (h:PaP w b pb W S A n c l k o sf gs qq vN vG cap vX q) (nm:ByteArray) (ec:Bool) (T:TypeId):PaE w b pb W.heap.size (W.alloc (.cells #[.string nm,.bool ec,.slice none 0 0] T)) S A n c l k o sf gs qq vN vG cap vX q nm ec (.slice none 0 0) []:=by
 have hab:=h.rd.own.above;exact⟨h.alloc _,h.at_.1,BoxP.new W T [.string nm,.bool ec,.slice none 0 0],⟨fun e=>by have:=(hab.1 _ e).2;omega,fun e=>by have:=(hab.2 _ e).2;omega⟩,fun g hg=>(h.own.lt g hg).2,World.ownsRow_nil _ _ _ _⟩
theorem PaE.went (h:PaE w b pb xb W S A n c l k o sf gs qq vN vG cap vX q nm ec vE es) (hw:WentP b W S A n c l vN vG k' o' sf' gs' qq' vN' vG' W'):PaE w b pb xb W' S A n c l k' o' sf' gs' qq' vN' vG' cap vX q nm ec vE es:=by
 have hxl:=h.box.lt (by simp);have hbp:=h.pa.hp;have hpx:=h.hx;obtain⟨ns,ats,r1,r2, -⟩:=h.pa.rd.own.ex
 have hv:∀ {B' n' s':Nat} {e':TypeId} {v':Value} {xs':List Value},W.ownsRow B' e' s' v' n' xs'→e'≠39→∀ g,vE.ownBlock=some g→v'.ownBlock≠some g:=fun h' hne g hg e=>by
  obtain⟨cur,e1⟩:=own_type h.row hg;obtain⟨cur',e2⟩:=own_type h' e;rw[e1] at e2;injection e2 with e2
  injection e2 with _ e3
  exact hne e3.symm
 refine⟨h.pa.went hw,h.hx,h.box.block (hw.far.block xb hxl (by omega) h.se.1 h.se.2),⟨fun e=>?_,fun e=>?_⟩,h.old,row_kept h.row fun g hg=>hw.far.block g (h.row.lt g hg).2 (by have:=(h.row.lt g hg).1;omega) (hv r1 (by decide) g hg) (hv r2 (by decide) g hg)⟩
 ·rcases hw.fN xb e with e | e
  ·exact h.se.1 e
  ·omega
 ·rcases hw.fG xb e with e | e
  ·exact h.se.2 e
  ·omega
theorem PaE.step (h:PaE w b pb xb W S A n c l k o sf gs qq vN vG cap vX q nm ec vE es) (hs:StepP b W S A n c l k' o' sf' gs qq vN vG W'):PaE w b pb xb W' S A n c l k' o' sf' gs qq vN vG cap vX q nm ec vE es:=h.went (.of hs)
theorem PaE.below (h:PaE w b pb xb W S A n c l k o sf gs qq vN vG cap vX q nm ec vE es) (hb:Below W.heap.size W W'):PaE w b pb xb W' S A n c l k o sf gs qq vN vG cap vX q nm ec vE es:=h.step ⟨grnP_below hb,h.pa.rd.low hb⟩
theorem PaE.alloc (h:PaE w b pb xb W S A n c l k o sf gs qq vN vG cap vX q nm ec vE es) (x:Obj):PaE w b pb xb (W.alloc x) S A n c l k o sf gs qq vN vG cap vX q nm ec vE es:=h.below (one_boxP W x)
theorem PaE.len (h:PaE w b pb xb W S A n c l k o sf gs qq vN vG cap vX q nm ec vE es):∃ A' c',vE= .slice A' es.length c':=by
 rcases h.row.2 with ⟨rfl,e⟩ | ⟨g,cap,cur,rfl,_⟩
 ·exact⟨_,_,by rw[e]⟩
 ·exact⟨_,_,rfl⟩
theorem PaE.push (h:PaE w b pb xb W S A n c l k o sf gs qq vN vG cap vX q nm ec vE es) (e:EdP) {vE':Value} (hr:W'.ownsRow (xb+1) 39 5 vE' (es.length+1) (cellsE es++cellE e)) (hg:W.grownBy W' vE.ownBlock):PaE w b pb xb (W'.setCell ⟨xb,2,none⟩ vE') S A n c l k o sf gs qq vN vG cap vX q nm ec vE' (es++[e]):=by
 have hxl:=h.box.lt (by simp);have hbp:=h.pa.hp;have hpx:=h.hx;have hbb:=h.pa.hb;obtain⟨hpl,hwl⟩:=h.pa.at_
 have hab:=h.pa.rd.own.above;have hvE:∀ g,vE.ownBlock=some g→xb<g:=fun g hg=>by have:=(h.row.lt g hg).1;omega
 have hvE':∀ g,vE'.ownBlock=some g→xb<g:=fun g hg=>by have:=(hr.lt g hg).1;omega
 have hbl:∀ i,i<W.heap.size→i≠xb→vE.ownBlock≠some i→(W'.setCell ⟨xb,2,none⟩ vE').heap[i]?=W.heap[i]?:=fun i hi hn hv=>(Below.heap_setCell _ _ _ _ hn).trans (hg.block i hi (fun e=>hv e.symm))
 have hsz:W.heap.size≤(W'.setCell ⟨xb,2,none⟩ vE').heap.size:=by simpa[World.setCell] using hg.size
 have hlowx:Below xb W (W'.setCell ⟨xb,2,none⟩ vE'):=⟨hg.os,hg.tape,hg.output,hsz,fun i hi=>hbl i (by omega) (by omega) (fun e=>by have:=hvE i e;omega)⟩;have hbx:BoxP W' xb [.string nm,.bool ec,vE]:=h.box.block (hg.block xb hxl (fun e=>by have:=hvE xb e.symm;omega));obtain⟨ns,ats,r1,r2, -⟩:=h.pa.rd.own.ex
 have hv:∀ {B' n' s':Nat} {e':TypeId} {v':Value} {xs':List Value},W.ownsRow B' e' s' v' n' xs'→e'≠39→∀ g,v'.ownBlock=some g→vE.ownBlock≠some g:=fun h' hne g hg e=>by
  obtain⟨cur,e1⟩:=own_type h.row e;obtain⟨cur',e2⟩:=own_type h' hg;rw[e1] at e2;injection e2 with e2
  injection e2 with _ e3
  exact hne e3.symm
 have hd:DocP b (W'.setCell ⟨xb,2,none⟩ vE') S A n c l k o sf gs qq vN vG:=by
  have hbk:=hbl b h.pa.rd.lt (by omega) (fun e=>by have:=hvE b e;omega);refine h.pa.rd.same (fun j=>World.cell?_of_block (a:=⟨b,j,none⟩) hbk) (fun j _=>World.frozen?_of_block (a:=⟨b,j,none⟩) hbk) (h.pa.rd.row.keep (hlowx.mono (by omega))) ?_;refine⟨?_,h.pa.rd.own.ap⟩;obtain⟨ns,ats,s1,s2,s3⟩:=h.pa.rd.own.ex;exact⟨ns,ats,row_kept s1 fun g hgg=>hbl g (s1.lt g hgg).2 (fun e=>h.se.1 (by rw[←e];exact hgg)) (hv s1 (by decide) g hgg),row_kept s2 fun g hgg=>hbl g (s2.lt g hgg).2 (fun e=>h.se.2 (by rw[←e];exact hgg)) (hv s2 (by decide) g hgg),s3⟩
 refine⟨h.pa.kept hd (hlowx.mono (by omega)) (hbl pb hpl (by omega) (fun e=>by have:=hvE pb e;omega)) h.pa.se fun g hgx=>hbl g (h.pa.own.lt g hgx).2 (by have:=h.old g hgx;omega) (fun e=>by have:=hvE g e;have:=h.old g hgx;omega),h.hx,hbx.set 2 (by simp) vE',h.se,h.old,?_⟩;show World.ownsRow _ _ _ _ _ (es++[e]).length _;rw[cellsE_app,List.length_append];have e1:cellsE [e]=cellE e:=by unfold cellsE;simp
 rw[e1];exact row_kept hr fun g hgg=>Below.heap_setCell _ _ _ _ (by have:=hvE' g hgg;show g≠xb;omega)
theorem PaE.leave (h:PaE w b pb xb W S A n c l k o sf gs qq vN vG cap vX q nm ec vE es) {vX':Value} (hr:W'.ownsRow (pb+1) 42 3 vX' (q.length+1) (cellsX q++[.string nm,.bool ec,vE])) (hg:W.grownBy W' vX.ownBlock):PaP w b pb (W'.setCell ⟨pb,1,none⟩ vX') S A n c l k o sf gs qq vN vG cap vX' (q++[(⟨nm.data.toList,ec,es⟩,vE)]):=by
 have hxl:=h.box.lt (by simp);have hbp:=h.pa.hp;have hpx:=h.hx;have hbb:=h.pa.hb;obtain⟨hpl,hwl⟩:=h.pa.at_
 have hab:=h.pa.rd.own.above;have hvX:∀ g,vX.ownBlock=some g→pb<g:=fun g hg=>by have:=(h.pa.own.row.lt g hg).1;omega
 have hvX':∀ g,vX'.ownBlock=some g→pb<g:=fun g hg=>by have:=(hr.lt g hg).1;omega
 have hbl:∀ i,i<W.heap.size→i≠pb→vX.ownBlock≠some i→(W'.setCell ⟨pb,1,none⟩ vX').heap[i]?=W.heap[i]?:=fun i hi hn hv=>(Below.heap_setCell _ _ _ _ hn).trans (hg.block i hi (fun e=>hv e.symm))
 have hsz:W.heap.size≤(W'.setCell ⟨pb,1,none⟩ vX').heap.size:=by simpa[World.setCell] using hg.size
 have hlowx:Below pb W (W'.setCell ⟨pb,1,none⟩ vX'):=⟨hg.os,hg.tape,hg.output,hsz,fun i hi=>hbl i (by omega) (by omega) (fun e=>by have:=hvX i e;omega)⟩;have hbx:BoxP W' pb [.int .i64 cap,vX]:=h.pa.box.block (hg.block pb hpl (fun e=>by have:=hvX pb e.symm;omega))
 have hv:∀ {B' n' s':Nat} {e':TypeId} {v':Value} {xs':List Value},W.ownsRow B' e' s' v' n' xs'→e'≠42→∀ g,v'.ownBlock=some g→vX.ownBlock≠some g:=fun h' hne g hg e=>by
  obtain⟨cur,e1⟩:=own_type h.pa.own.row e;obtain⟨cur',e2⟩:=own_type h' hg;rw[e1] at e2;injection e2 with e2
  injection e2 with _ e3
  exact hne e3.symm
 have hd:DocP b (W'.setCell ⟨pb,1,none⟩ vX') S A n c l k o sf gs qq vN vG:=by
  have hbk:=hbl b h.pa.rd.lt (by omega) (fun e=>by have:=hvX b e;omega);refine h.pa.rd.same (fun j=>World.cell?_of_block (a:=⟨b,j,none⟩) hbk) (fun j _=>World.frozen?_of_block (a:=⟨b,j,none⟩) hbk) (h.pa.rd.row.keep (hlowx.mono (by omega))) ?_;refine⟨?_,h.pa.rd.own.ap⟩;obtain⟨ns,ats,s1,s2,s3⟩:=h.pa.rd.own.ex;exact⟨ns,ats,row_kept s1 fun g hgg=>hbl g (s1.lt g hgg).2 (fun e=>h.pa.se.1 (by rw[←e];exact hgg)) (hv s1 (by decide) g hgg),row_kept s2 fun g hgg=>hbl g (s2.lt g hgg).2 (fun e=>h.pa.se.2 (by rw[←e];exact hgg)) (hv s2 (by decide) g hgg),s3⟩
 have hkid:∀ {v':Value} {es':List EdP} {B':Nat},OwnE B' W v' es'→pb+1≤B'→OwnE (pb+1) (W'.setCell ⟨pb,1,none⟩ vX') v' es':=fun h' hB=>own_lowP (row_kept h' fun g hgg=>hbl g (h'.lt g hgg).2 (by have:=(h'.lt g hgg).1;omega) (hv h' (by decide) g hgg)) hB
 refine⟨hd,h.pa.low.trans (hlowx.mono (by omega)),h.pa.hb,h.pa.hp,hbx.set 1 (by simp) vX',h.pa.se,⟨?_,fun x hx=>?_,?_⟩⟩
 ·rw[cellsX_app,List.length_append]
  have e1:cellsX [((⟨nm.data.toList,ec,es⟩:PlP),vE)]=[.string nm,.bool ec,vE]:=by unfold cellsX cellX;simp
  rw[e1];exact row_kept hr fun g hgg=>Below.heap_setCell _ _ _ _ (by have:=hvX' g hgg;show g≠pb;omega)
 ·rcases List.mem_append.1 hx with hx | hx
  ·exact hkid (h.pa.own.kids x hx) (Nat.le_refl _)
  ·rw[List.mem_singleton] at hx
   subst hx;exact hkid h.row (by omega)
 ·rw[List.pairwise_append]
  refine⟨h.pa.own.ap,List.pairwise_singleton _ _,fun x hx y hy g hg e=>?_⟩;rw[List.mem_singleton] at hy;subst hy;have h1:=h.old g (.inr ⟨x,hx,hg⟩);have h2:=(h.row.lt g e).1;omega
end
end
section
abbrev OutP:=Option PeP × Int × Int
theorem Rp.then_assoc {α β γ:Type} (R:Rp α) (f:α→Nat→Rp β) (g:β→Nat→Rp γ):(R.then f).then g=R.then fun x i=>(f x i).then g:=by
 cases R with
 | bad j=>rfl
 | ok x j s gs=>
   simp only[Rp.then]
   cases f x j with
   | bad m=>rfl
   | ok y m s' gs'=>
     simp only
     cases g y m with
     | bad m'=>rfl
     | ok z m' s2 gs2=>simp only[List.append_assoc]
theorem Rp.met_then {α β:Type} (b:Bool) (k:Nat) (e:Int) (R:Rp α) (f:α→Nat→Rp β):(Rp.met b k e R).then f=Rp.met b k e (R.then f):=by
 cases R with
 | bad j=>rfl
 | ok x j s gs=>
   simp only[Rp.then,Rp.met]
   cases f x j with
   | bad m=>rfl
   | ok y m s' gs'=>simp only[List.append_assoc]
theorem Rp.ok_then {α β:Type} (x:α) (j:Nat) (f:α→Nat→Rp β):(Rp.ok x j [] []).then f=f x j:=by
 simp only[Rp.then]
 cases f x j <;> simp
section
variable (n:Nat) (l:List Tok) (cap:Int)
def finL (xs:List PlP) (sf:Sf) (gs:Gs):OutP:=match softsP l none (sf++linkS (xs.map (·.name)) gs) with
 | some (k,e)=>(none,k,e)
 | none=>(some (linkP gs ⟨cap,xs⟩),0,0)
def finX (xs:List PlP) (sf:Sf) (gs:Gs):Rp (List PlP)→OutP
 | .bad j=>(none,placeOf n l j,1)
 | .ok ys _ s g=>finL l cap (xs++ys) (sf++s) (gs++g)
def restX (N:Nat) (xs:List PlP) (g k:Nat):Rp (List PlP):=if xs=[]∨k<l.length then placesP l cap N (xs.map (·.name)) g k else .ok [] k [] []
def afterX (N:Nat) (xs:List PlP) (g:Nat) (x:PlP) (v:Nat):Rp (List PlP):=if v<l.length then (placesP l cap N (xs.map (·.name)++[x.name]) (g+goesL x.edges) v).then fun ys m=> .ok (x::ys) m [] [] else .ok [x] v [] []
def shutX (N:Nat) (xs:List PlP) (g:Nat) (w:Bs) (b:Bool) (es:List EdP) (r:Nat):Rp (List PlP):=(needP l 4 [125] r).then fun _ v=>afterX l cap N xs g ⟨w,b,es⟩ v
def loopX (N:Nat) (xs:List PlP) (g:Nat) (w:Bs) (b:Bool) (M:Nat) (es:List EdP) (gE k:Nat):Rp (List PlP):=(edgesP l cap M es.length gE k).then fun fs r=>shutX l cap N xs g w b (es++fs) r
def openX (N:Nat) (xs:List PlP) (g:Nat) (w:Bs) (b:Bool) (m:Nat):Rp (List PlP):=(needP l 4 [123] m).then fun _ q=>loopX l cap N xs g w b (l.length+1) [] g q
def echoX (N:Nat) (xs:List PlP) (g:Nat) (w:Bs) (j:Nat):Rp (List PlP):=(echoP l j).then fun b m=>openX l cap N xs g w b m
def nameX (N:Nat) (xs:List PlP) (g:Nat) (i:Nat):Rp (List PlP):=(nameP l i).then fun w j=>Rp.met ((xs.map (·.name)).contains w) i 12 (echoX l cap N xs g w j)
theorem places_step (N:Nat) (xs:List PlP) (g k:Nat):placesP l cap (N+1) (xs.map (·.name)) g k=(needP l 1 wAt k).then fun _ i=>Rp.met (decide (16≤xs.length)) k 9 (nameX l cap N xs g i):=by
 rw[placesP,placeP,List.length_map];simp only[Rp.then_assoc,Rp.met_then,Rp.ok_then]
 rfl
theorem loop_step (N:Nat) (xs:List PlP) (g:Nat) (w:Bs) (b:Bool) (M:Nat) (es:List EdP) (gE k:Nat):loopX l cap N xs g w b (M+1) es gE k=if isP l 4 [125] k then shutX l cap N xs g w b es k else (edgeP l cap es.length gE k).then fun e i=>loopX l cap N xs g w b M (es++[e]) (gE+goesP e) i:=by
 unfold loopX;rw[edgesP]
 split
 ·rw[Rp.ok_then,List.append_nil]
 ·rw[Rp.then_assoc]
  congr 1
  funext e i
  rw[Rp.then_assoc,List.length_append]
  congr 1
  funext fs r
  rw[Rp.ok_then,List.append_assoc];rfl
variable {n l cap}
theorem gate_then {α β:Type} (o k:Nat) (P:Rp α) (f:α→Nat→Rp β):gateR o k (P.then f)=(gateR o k P).then f:=by
 unfold gateR;split <;> rfl
theorem fin_bad {o:Nat} (ho:o≠0) (k:Nat) (xs:List PlP) (sf:Sf) (gs:Gs) (F:Rp (List PlP)):finX n l cap xs sf gs (gateR o k F)=(none,placeOf n l k,1):=by
 unfold gateR;rw[if_neg ho];rfl
theorem fin_then {α:Type} (xs:List PlP) (sf:Sf) (gs:Gs) (x:α) (j:Nat) (s:Sf) (g:Gs) (f:α→Nat→Rp (List PlP)):finX n l cap xs sf gs ((Rp.ok x j s g).then f)=finX n l cap xs (sf++s) (gs++g) (f x j):=by
 simp only[Rp.then]
 cases f x j with
 | bad m=>rfl
 | ok y m s' g'=>simp only[finX,List.append_assoc]
theorem fin_met (xs:List PlP) (sf:Sf) (gs:Gs) (b:Bool) (k:Nat) (e:Int) (R:Rp (List PlP)):finX n l cap xs sf gs (Rp.met b k e R)=finX n l cap xs (sf++if b then [(k,e)] else []) gs R:=by
 cases R with
 | bad m=>rfl
 | ok y m s' g'=>simp only[finX,Rp.met,List.append_assoc]
theorem fin_after (N:Nat) (xs:List PlP) (g:Nat) (x:PlP) (v:Nat) (sf:Sf) (gs:Gs):finX n l cap xs sf gs (afterX l cap N xs g x v)=finX n l cap (xs++[x]) sf gs (restX l cap N (xs++[x]) (g+goesL x.edges) v):=by
 unfold afterX restX;by_cases h:v<l.length
 ·rw[if_pos h,if_pos (.inr h),List.map_append]
  show _=finX n l cap (xs++[x]) sf gs (placesP l cap N (xs.map (·.name)++[x.name]) (g+goesL x.edges) v)
  cases placesP l cap N (xs.map (·.name)++[x.name]) (g+goesL x.edges) v with
  | bad m=>rfl
  | ok ys m s' g'=>simp only[finX,Rp.then,List.append_nil,List.append_assoc];rfl
 ·rw[if_neg h,if_neg (by simp[h])]
  simp only[finX,List.append_nil]
theorem st_then {α:Type} {RR:OutP} {xs:List PlP} {sf:Sf} {gs:Gs} {o k:Nat} {P R:Rp α} {f:α→Nat→Rp (List PlP)} (h:RR=finX n l cap xs sf gs (gateR o k (P.then f))) (hR:gateR o k P=R) (x:α) (hx:∀ y j s g,R= .ok y j s g→y=x):RR=finX n l cap xs (sf++R.sfs) (gs++R.gss) (gateR R.err R.at (f x R.at)):=by
 rw[h,gate_then,hR]
 cases R with
 | bad j=>rfl
 | ok y j s g=>
   rw[fin_then,hx y j s g rfl];rfl
theorem st_met {RR:OutP} {xs:List PlP} {sf:Sf} {gs:Gs} {o k:Nat} {b:Bool} {j:Nat} {e:Int} {F:Rp (List PlP)} (h:RR=finX n l cap xs sf gs (gateR o k (Rp.met b j e F))):RR=finX n l cap xs (sf++if b then [(j,e)] else []) gs (gateR o k F):=by
 rw[h];by_cases ho:o=0
 ·subst ho
  exact fin_met _ _ _ _ _ _ _
 ·rw[fin_bad ho,fin_bad ho]
theorem need_gs {kd:Int} {w:Bs} {k:Nat} {o:Nat}:(gateR o k (needP l kd w k)).sfs=[]∧(gateR o k (needP l kd w k)).gss=[]:=by
 unfold gateR needP
 split
 ·split <;> exact⟨rfl,rfl⟩
 ·exact⟨rfl,rfl⟩
theorem name_gs {k:Nat} {o:Nat}:(gateR o k (nameP l k)).sfs=[]∧(gateR o k (nameP l k)).gss=[]:=by
 unfold gateR nameP
 split
 ·split <;> exact⟨rfl,rfl⟩
 ·exact⟨rfl,rfl⟩
def echoJ (l:List Tok) (k o:Nat):Nat:=if isOp l 1 wEcho k o=true then k+1 else k
theorem st_echo {RR:OutP} {xs:List PlP} {sf:Sf} {gs:Gs} {o k:Nat} {f:Bool→Nat→Rp (List PlP)} (h:RR=finX n l cap xs sf gs (gateR o k ((echoP l k).then f))):RR=finX n l cap xs sf gs (gateR o (echoJ l k o) (f (isOp l 1 wEcho k o) (echoJ l k o))):=by
 rw[h];unfold echoJ;by_cases ho:o=0
 ·subst ho
  unfold gateR;rw[if_pos rfl,if_pos rfl,isOp_zero];unfold echoP;by_cases hi:isP l 1 wEcho k=true
  ·rw[if_pos hi,if_pos hi,Rp.ok_then,hi]
  ·rw[if_neg hi,if_neg hi,Rp.ok_then,Bool.eq_false_iff.2 hi]
 ·rw[fin_bad ho,isOp_bad l 1 wEcho k ho,if_neg (by decide),fin_bad ho]
theorem then_at {α β:Type} {R:Rp α} {f:α→Nat→Rp β} {y:β} {m:Nat} {s:Sf} {gs:Gs} (h:R.then f= .ok y m s gs):∃ x i s1 s2 g1 g2,R= .ok x i s1 g1∧f x i= .ok y m s2 g2∧s=s1++s2∧gs=g1++g2:=by
 cases R with
 | bad j=>cases h
 | ok x i s1 g1=>
   unfold Rp.then at h
   simp only at h
   cases hf:f x i with
   | bad j=>rw[hf] at h;cases h
   | ok z m' s2 g2=>
     rw[hf] at h;injection h with h1 h2 h3 h4
     subst h1 h2;exact⟨x,i,s1,s2,g1,g2,rfl,hf,h3.symm,h4.symm⟩
theorem met_at_ {α:Type} {b:Bool} {k:Nat} {e:Int} {R:Rp α} {y:α} {m:Nat} {s:Sf} {gs:Gs} (h:Rp.met b k e R= .ok y m s gs):∃ s2,R= .ok y m s2 gs:=by
 cases R with
 | bad j=>cases h
 | ok x j s1 g1=>
   injection h with h1 h2 h3 h4
   subst h1 h2 h4;exact⟨s1,rfl⟩
theorem small_at {k j:Nat} {x:Int} {s:Sf} {gs:Gs} (h:smlP l k= .ok x j s gs):j=k+1∧gs=[]:=by
 unfold smlP at h;obtain⟨t,i,s1,s2,g1,g2,h1,h2, -,rfl⟩:=then_at h;obtain⟨rfl, -,rfl, -⟩:=take_ok h1;obtain⟨s3,h3⟩:=met_at_ h2;injection h3 with _ h4 _ h5
 exact⟨h4.symm,by rw[←h5];rfl⟩
theorem delay_at {k j:Nat} {x:Int × Int} {s:Sf} {gs:Gs} (h:delayP l k= .ok x j s gs):k<j∧gs=[]:=by
 unfold delayP at h;obtain⟨u,i,s1,s2,g1,g2,h1,h2, -,rfl⟩:=then_at h;obtain⟨rfl, -,rfl, -⟩:=need_ok h1;obtain⟨lo,i2,s3,s4,g3,g4,h3,h4, -,rfl⟩:=then_at h2;obtain⟨rfl,rfl⟩:=small_at h3
 split at h4
 ·injection h4 with _ h5 _ h6
  exact⟨by omega,by rw[←h6];rfl⟩
 ·obtain⟨hi,i3,s5,s6,g5,g6,h5,h6, -,rfl⟩:=then_at h4
  obtain⟨rfl,rfl⟩:=small_at h5;obtain⟨s7,h7⟩:=met_at_ h6;injection h7 with _ h8 _ h9
  exact⟨by omega,by rw[←h9];rfl⟩
theorem to_at {g k j:Nat} {x:Int} {s:Sf} {gs:Gs} (h:toP l g k= .ok x j s gs):k<j∧gs.length=1∧x=g∧∀ y∈gs,y.2<l.length:=by
 unfold toP at h;obtain⟨u,i,s1,s2,g1,g2,h1,h2, -,rfl⟩:=then_at h;obtain⟨rfl, -,rfl, -⟩:=need_ok h1;obtain⟨w,i2,s3,s4,g3,g4,h3,h4, -,rfl⟩:=then_at h2;obtain⟨rfl, -,rfl, -,hk1, -⟩:=name_ok h3;injection h4 with h5 h6 _ h7
 have hlt:=nxp_lt (l:=l) (by rw[hk1];decide);exact⟨by omega,by rw[←h7];rfl,h5.symm,fun y hy=>by rw[←h7] at hy;simp at hy;rw[hy];exact hlt⟩
theorem edge_at {many g k j:Nat} {e:EdP} {s:Sf} {gs:Gs} (h:edgeP l cap many g k= .ok e j s gs):k<j∧gs.length=goesP e∧(e.kind=3∨e.to=g)∧∀ y∈gs,y.2<l.length:=by
 unfold edgeP at h;obtain⟨s2,h⟩:=met_at_ h
 split at h
 ·obtain⟨t,i,s3,s4,g3,g4,h3,h4, -,rfl⟩:=then_at h
  obtain⟨rfl, -,rfl, -⟩:=text_okP h3;obtain⟨s5,h5⟩:=met_at_ h4;obtain⟨d,i2,s6,s7,g6,g7,h6,h7, -,rfl⟩:=then_at h5;obtain⟨hd,rfl⟩:=delay_at h6;obtain⟨tg,i3,s8,s9,g8,g9,h8,h9, -,rfl⟩:=then_at h7;obtain⟨ht,hg,hto,hgl⟩:=to_at h8;injection h9 with h10 h11 _ h12
  subst h10 h11 h12;exact⟨by omega,by simp[hg,goesP],.inr hto,by simpa using hgl⟩
 ·split at h
  ·obtain⟨t,i,s3,s4,g3,g4,h3,h4, -,rfl⟩:=then_at h
   obtain⟨rfl, -,rfl, -⟩:=text_okP h3;obtain⟨s5,h5⟩:=met_at_ h4;obtain⟨tg,i3,s8,s9,g8,g9,h8,h9, -,rfl⟩:=then_at h5;obtain⟨ht,hg,hto,hgl⟩:=to_at h8;injection h9 with h10 h11 _ h12
   subst h10 h11 h12;exact⟨by omega,by simp[hg,goesP],.inr hto,by simpa using hgl⟩
  ·obtain⟨u,i,s3,s4,g3,g4,h3,h4, -,rfl⟩:=then_at h
   obtain⟨rfl, -,rfl, -⟩:=need_ok h3;obtain⟨d,i2,s6,s7,g6,g7,h6,h7, -,rfl⟩:=then_at h4;obtain⟨hd,rfl⟩:=delay_at h6;injection h7 with h10 h11 _ h12
   subst h10 h11 h12;exact⟨by omega,by simp[goesP],.inl rfl,by simp⟩
theorem edge_end {many g k:Nat} (hk:¬ k<l.length):edgeP l cap many g k= .bad k:=by
 have h0:∀ kd w,kd≠0→isP l kd w k=false:=fun kd w hkd=>by
  unfold isP;rw[nxp_end hk];exact decide_eq_false fun e=>hkd e.1.symm
 unfold edgeP;rw[h0 1 wEmit (by decide),h0 1 wLine (by decide)];have:needP l 1 wShut k= .bad k:=by unfold needP;rw[h0 1 wShut (by decide)];rfl
 simp only[Bool.false_eq_true,if_false];rw[this];rfl
end
def okE:Nat→List EdP→Prop
 | _,[]=>True
 | g,e::es=>(e.kind=3∨e.to=g)∧okE (g+goesP e) es
def okX:Nat→List PlP→Prop
 | _,[]=>True
 | g,x::xs=>okE g x.edges∧okX (g+goesL x.edges) xs
def goesX:List PlP→Nat
 | []=>0
 | x::xs=>goesL x.edges+goesX xs
theorem goesL_snoc (es:List EdP) (e:EdP):goesL (es++[e])=goesL es+goesP e:=by
 induction es with
 | nil=>show goesL [e]=_;rw[goesL_cons];exact Nat.add_comm _ _
 | cons a es ih=>rw[List.cons_append,goesL_cons,ih,goesL_cons];omega
theorem okE_snoc {e:EdP}:∀ (es:List EdP) (g:Nat),okE g es→(e.kind=3∨e.to=(g+goesL es:Nat))→okE g (es++[e])
 | [],g,_,he=>⟨he,trivial⟩
 | a::es,g,h,he=>⟨h.1,okE_snoc es _ h.2 (by rw[goesL_cons] at he;rw[Nat.add_assoc];exact he)⟩
theorem goesX_snoc (xs:List PlP) (x:PlP):goesX (xs++[x])=goesX xs+goesL x.edges:=by
 induction xs with
 | nil=>rw[List.nil_append,goesX,goesX,goesX];omega
 | cons a xs ih=>rw[List.cons_append,goesX,ih,goesX];omega
theorem okX_snoc {x:PlP}:∀ (xs:List PlP) (g:Nat),okX g xs→okE (g+goesX xs) x.edges→okX g (xs++[x])
 | [],g,_,he=>⟨he,trivial⟩
 | a::xs,g,h,he=>⟨h.1,okX_snoc xs _ h.2 (by rw[goesX] at he;rw[Nat.add_assoc];exact he)⟩
end
section
structure RrX (N:Nat) (l:List Tok) (RR:OutP) (cap:Int) (xs:List PlP) (ge:Nat) (k o:Nat) (sf:Sf) (gs:Gs) (qq:Nat) (F:Rp (List PlP)):Prop where
 rr:RR=finX N l cap xs sf gs (gateR o k F)
 fu:o=0→qq≤k∧gs.length≤k∧okX 0 xs∧goesX xs+ge=gs.length
 many:xs.length≤4001∧∀ x∈xs,x.edges.length≤4001
 gl:o=0→∀ y∈gs,y.2<l.length
section
variable {N:Nat} {l:List Tok} {RR:OutP} {cap:Int} {xs:List PlP} {ge k o:Nat} {sf:Sf} {gs:Gs} {qq:Nat} {F:Rp (List PlP)}
theorem gate_at {α:Type} {o k:Nat} {P:Rp α} (h:(gateR o k P).err=0):o=0∧gateR o k P=P:=by
 by_cases ho:o=0
 ·subst ho;exact⟨rfl,rfl⟩
 ·unfold gateR at h;rw[if_neg ho] at h;cases h
theorem need_at {kd:Int} {w:Bs} (h:(gateR o k (needP l kd w k)).err=0):o=0∧(gateR o k (needP l kd w k)).at=k+1:=by
 obtain⟨h1,h2⟩:=gate_at h;rw[h2] at h ⊢;refine⟨h1,?_⟩;unfold needP at h ⊢
 split
 ·rfl
 ·rename_i hi;rw[if_neg hi] at h;cases h
theorem name_at (h:(gateR o k (nameP l k)).err=0):o=0∧(gateR o k (nameP l k)).at=k+1:=by
 obtain⟨h1,h2⟩:=gate_at h;rw[h2] at h ⊢;refine⟨h1,?_⟩;unfold nameP at h ⊢
 split
 ·rfl
 ·rename_i hi;rw[if_neg hi] at h;cases h
theorem RrX.need {kd:Int} {w:Bs} {f:Unit→Nat→Rp (List PlP)} (h:RrX N l RR cap xs ge k o sf gs qq ((needP l kd w k).then f)):RrX N l RR cap xs ge (gateR o k (needP l kd w k)).at (gateR o k (needP l kd w k)).err sf gs qq (f () (gateR o k (needP l kd w k)).at):=by
 have:=st_then h.rr rfl () (fun _ _ _ _ _=>rfl);obtain⟨e1,e2⟩:=need_gs (l:=l) (kd:=kd) (w:=w) (k:=k) (o:=o);rw[e1,e2,List.append_nil,List.append_nil] at this;refine⟨this,fun h0=>?_,h.many,fun h0=>h.gl (need_at h0).1⟩;obtain⟨a,b⟩:=need_at h0;obtain⟨f1,f2,f3⟩:=h.fu a;exact⟨by omega,by omega,f3⟩
theorem RrX.name {f:Bs→Nat→Rp (List PlP)} (h:RrX N l RR cap xs ge k o sf gs qq ((nameP l k).then f)) (W:Bs) (hW:∀ y j s g,gateR o k (nameP l k)= .ok y j s g→y=W):RrX N l RR cap xs ge (gateR o k (nameP l k)).at (gateR o k (nameP l k)).err sf gs qq (f W (gateR o k (nameP l k)).at):=by
 have:=st_then h.rr rfl W hW;obtain⟨e1,e2⟩:=name_gs (l:=l) (k:=k) (o:=o);rw[e1,e2,List.append_nil,List.append_nil] at this;refine⟨this,fun h0=>?_,h.many,fun h0=>h.gl (name_at h0).1⟩;obtain⟨a,b⟩:=name_at h0;obtain⟨f1,f2,f3⟩:=h.fu a;exact⟨by omega,by omega,f3⟩
theorem RrX.met {b:Bool} {j:Nat} {e:Int} (h:RrX N l RR cap xs ge k o sf gs qq (Rp.met b j e F)) {sf':Sf} (hs:o=0→sf'=sf++if b then [(j,e)] else []):RrX N l RR cap xs ge k o sf' gs qq F:=by
 refine⟨?_,h.fu,h.many,h.gl⟩;have:=st_met h.rr;by_cases ho:o=0
 ·rw[hs ho];exact this
 ·rw[this,fin_bad ho,fin_bad ho]
theorem RrX.echo {f:Bool→Nat→Rp (List PlP)} (h:RrX N l RR cap xs ge k o sf gs qq ((echoP l k).then f)):RrX N l RR cap xs ge (echoJ l k o) o sf gs qq (f (isOp l 1 wEcho k o) (echoJ l k o)):=by
 refine⟨st_echo h.rr,fun h0=>?_,h.many,h.gl⟩;obtain⟨f1,f2,f3⟩:=h.fu h0;unfold echoJ
 split
 ·exact⟨by omega,by omega,f3⟩
 ·exact⟨f1,f2,f3⟩
end
structure RrE (N:Nat) (l:List Tok) (RR:OutP) (cap:Int) (xs:List PlP) (NX:Nat) (w:Bs) (b:Bool) (M:Nat) (es:List EdP) (k o:Nat) (sf:Sf) (gs:Gs) (qq:Nat):Prop where
 st:RrX N l RR cap xs (goesL es) k o sf gs qq (loopX l cap NX xs (goesX xs) w b M es gs.length k)
 ok:o=0→okE (goesX xs) es∧l.length<M+k∧es.length≤k
 many:es.length≤4001
section
variable {N:Nat} {l:List Tok} {RR:OutP} {cap:Int} {xs:List PlP} {NX:Nat} {w:Bs} {b:Bool} {M:Nat} {es:List EdP} {k o:Nat} {sf:Sf} {gs:Gs} {qq:Nat}
theorem RrE.start (h:RrX N l RR cap xs 0 k o sf gs qq (loopX l cap NX xs (goesX xs) w b (l.length+1) [] (goesX xs) k)):RrE N l RR cap xs NX w b (l.length+1) [] k o sf gs qq:=by
 refine⟨⟨?_,fun h0=>h.fu h0,h.many,h.gl⟩,fun h0=>⟨trivial,by omega,by simp⟩,by simp⟩;rw[h.rr];by_cases ho:o=0
 ·have:=(h.fu ho).2.2.2
  rw[←this];rfl
 ·rw[fin_bad ho,fin_bad ho]
theorem RrE.shut (h:RrE N l RR cap xs NX w b M es k o sf gs qq) (hs:o=0→isP l 4 [125] k=true) (hk:o=0→k≤l.length):RrX N l RR cap xs (goesL es) k o sf gs qq (shutX l cap NX xs (goesX xs) w b es k):=by
 refine⟨?_,h.st.fu,h.st.many,h.st.gl⟩;rw[h.st.rr];by_cases ho:o=0
 ·subst ho
  have h2:=(h.ok rfl).2.1;have h3:=hk rfl;obtain⟨M2,rfl⟩:∃ M2,M=M2+1:=⟨M - 1,by omega⟩;rw[loop_step,if_pos (hs rfl)]
 ·rw[fin_bad ho,fin_bad ho]
theorem RrE.none (h:RrE N l RR cap xs NX w b M es k 0 sf gs qq) (hs:isP l 4 [125] k=false) (hk:¬ k<l.length) (hkl:k≤l.length) (F:Rp (List PlP)):RrX N l RR cap xs (goesL es) k 1 sf gs qq F:=by
 refine⟨?_,fun h0=>(by cases h0),h.st.many,fun h0=>(by cases h0)⟩;rw[h.st.rr,fin_bad (o:=1) (by decide)];have h2:=(h.ok rfl).2.1;obtain⟨M2,rfl⟩:∃ M2,M=M2+1:=⟨M - 1,by omega⟩;rw[loop_step,if_neg (by rw[hs];decide),edge_end hk];rfl
theorem RrE.more {R:Rp EdP} (h:RrE N l RR cap xs NX w b M es k 0 sf gs qq) (hs:isP l 4 [125] k=false) (hk:k<l.length) (hl:l.length≤4000) (hR:edgeP l cap es.length gs.length k=R) (hRl:R.at≤l.length) (e:EdP) (he:∀ y j s g,R= .ok y j s g→y=e):∃ M2,M=M2+1∧RrE N l RR cap xs NX w b M2 (es++[e]) R.at R.err (sf++R.sfs) (gs++R.gss) (qq+1):=by
 obtain⟨o1,o2,o3⟩:=h.ok rfl;obtain⟨f1,f2,f3,f4⟩:=h.st.fu rfl;obtain⟨M2,rfl⟩:∃ M2,M=M2+1:=⟨M - 1,by omega⟩;refine⟨M2,rfl,?_⟩;have hrr:=h.st.rr;rw[loop_step,if_neg (by rw[hs];decide)] at hrr;have hst:=st_then (P:=edgeP l cap es.length gs.length k) (o:=0) hrr hR e he;have hmany:(es++[e]).length≤4001:=by rw[List.length_append];simp;omega
 cases R with
 | bad j=>
   refine⟨⟨?_,fun h0=>(by cases h0),h.st.many,fun h0=>(by cases h0)⟩,fun h0=>(by cases h0),hmany⟩;rw[hst];show finX _ _ _ _ _ _ (gateR 1 j _)=finX _ _ _ _ _ _ (gateR 1 j _);rw[fin_bad (by decide),fin_bad (by decide)]
 | ok y j s g=>
   obtain rfl:=he y j s g rfl;obtain⟨q1,q2,q3,q5⟩:=edge_at hR;have q4:gs.length+goesP y=(gs++g).length:=by rw[List.length_append,q2]
   have hgl:goesP y≤1:=by unfold goesP;split <;> omega
   refine⟨⟨?_,fun _=>⟨?_,?_,f3,?_⟩,h.st.many,fun _ z hz=>(List.mem_append.1 hz).elim (fun hz=>h.st.gl rfl z hz) (fun hz=>q5 z hz)⟩,fun _=>⟨okE_snoc es _ o1 ?_,?_,?_⟩,hmany⟩
   ·rw[hst]
    show finX _ _ _ _ _ _ (gateR 0 j (loopX _ _ _ _ _ _ _ _ _ (gs.length+goesP y) _))=_;rw[q4];rfl
   ·show qq+1≤j;omega
   ·show (gs++g).length≤j;omega
   ·show _=(gs++g).length
    rw[goesL_snoc];omega
   ·rcases q3 with q3 | q3
    ·exact .inl q3
    ·right;rw[q3,f4]
   ·show l.length<M2+j;omega
   ·show (es++[y]).length≤j;rw[List.length_append];simp;omega
theorem RrX.after {NX:Nat} {x:PlP} (h:RrX N l RR cap xs (goesL x.edges) k o sf gs qq (afterX l cap NX xs (goesX xs) x k)) (hk:xs.length≤4000) (he:x.edges.length≤4001) (hok:o=0→okE (goesX xs) x.edges):RrX N l RR cap (xs++[x]) 0 k o sf gs qq (restX l cap NX (xs++[x]) gs.length k):=by
 refine⟨?_,fun h0=>?_,⟨by rw[List.length_append];simp;omega,fun y hy=>?_⟩,h.gl⟩
 ·rw[h.rr]
  by_cases ho:o=0
  ·subst ho
   have:=(h.fu rfl).2.2.2;rw[←this];exact fin_after NX xs (goesX xs) x k sf gs
  ·rw[fin_bad ho,fin_bad ho]
 ·obtain⟨f1,f2,f3,f4⟩:=h.fu h0
  exact⟨f1,f2,okX_snoc xs 0 f3 (by rw[Nat.zero_add];exact hok h0),by rw[goesX_snoc];omega⟩
 ·rcases List.mem_append.1 hy with hy | hy
  ·exact h.many.2 y hy
  ·rw[List.mem_singleton] at hy;subst hy;exact he
end
theorem softs_twice (l:List Tok) (sf:Sf) (x:Nat × Int):softsP l none (sf++[x]++[x])=softsP l none (sf++[x]):=by
 rw[softs_snoc,softs_snoc]
 cases softsP l none sf with
 | none=>unfold softP;simp
 | some y=>
   unfold softP;by_cases h:(nxp l x.1).pl<y.1
   ·simp[h]
   ·simp[h]
end
def txSum (ps:List Pt):Nat:=(ps.map fun p=>p.2.length).sum
theorem txSum_app (a b:List Pt):txSum (a++b)=txSum a+txSum b:=by simp[txSum]
theorem txSum_mem {ps:List Pt} {p:Pt} (h:p∈ps):p.2.length≤txSum ps:=by
 induction ps with
 | nil=>cases h
 | cons q r ih=>
   have e:txSum (q::r)=q.2.length+txSum r:=by simp[txSum]
   rw[e]
   rcases List.mem_cons.1 h with rfl | h
   ·omega
   ·have:=ih h;omega
theorem flush_sumP (ps:List Pt) (t:Bs):txSum (flush ps t)=txSum ps+t.length:=by
 unfold flush
 split
 ·rename_i e;rw[e];simp
 ·rw[txSum_app];simp[txSum]
theorem goN_sumP (r:Bs) (pos:Nat) (ps:List Pt) (t:Bs):∀ out,(goN r pos ps t).1=some out→txSum out≤txSum ps+t.length+r.length:=by
 refine goN_ind (P:=fun r pos ps t=>∀ out,(goN r pos ps t).1=some out→txSum out≤txSum ps+t.length+r.length) ?_ ?_ ?_ ?_ (r.length+1) r pos ps t (Nat.lt_succ_self _)
 ·intro r k pos ps t h out ho
  rw[goN_bad h] at ho;cases ho
 ·intro r pos ps t h out ho
  rw[goN_stop h] at ho;injection ho with ho;subst ho
  rw[flush_sumP];omega
 ·intro r nm k pos ps t h h0 h1 ih out ho
  rw[goN_var h] at ho;have:=ih out ho;rw[txSum_app,flush_sumP,List.length_drop] at this;simp[txSum] at this;simp only[txSum];omega
 ·intro r c k pos ps t h h0 h1 ih out ho
  rw[goN_byte h] at ho;have:=ih out ho;rw[List.length_append,List.length_drop] at this;simp at this;omega
theorem parse_sumP (l:Bs) (out:List Pt) (h:(parse l).1=some out):txSum out≤l.length:=by
 cases l with
 | nil=>simp[parse] at h
 | cons c r=>
   by_cases hc:c=34
   ·subst hc
    rw[parse_quote] at h;have:=goN_sumP r 1 [] [] out h;simp[txSum] at this ⊢;omega
   ·rw[parse_no c r hc] at h;cases h
theorem print_sumP:∀ ps:List Pt,(∀ p∈ps,p.1.length≤8)→(ps.flatMap prP).length≤11 * ps.length+4 * txSum ps
 | [],_=>by simp
 | p::r,h=>by
   have h1:=print_sumP r fun q hq=>h q (by simp[hq])
   have h2:=h p (by simp);have h3:=bytes_len p.2
   have h4:(prV p.1).length≤11:=by
    unfold prV
    split
    ·simp
    ·simp;omega
   have e:txSum (p::r)=p.2.length+txSum r:=by simp[txSum]
   have h5:(prP p).length=(prV p.1).length+(p.2.flatMap prB).length:=by unfold prP;rw[List.length_append]
   rw[List.flatMap_cons,List.length_append,List.length_cons,e,h5];omega
theorem fit_readP {N:Nat} {t:Tok} (h:Read1 N t) (hN:N≤1000):FitT t:=by
 have ho:=h.ok
 have hn: -9223372036854775808≤t.n∧t.n≤9223372036854775807:=by
  refine⟨?_,h.n⟩;unfold okT at ho
  split at ho
  ·simp at ho;omega
  ·split at ho <;> (simp at ho;omega)
 rcases h.parts with e | ⟨l,q,e,hl⟩
 ·exact⟨by have:=h.word;omega,hn,by rw[e];simp,by rw[e];simp,by rw[e];simp,by rw[e];decide⟩
 ·have h1:=parse_len l t.parts (by rw[e])
  have h2:=parse_sumP l t.parts (by rw[e])
  have h3:∀ p∈t.parts,p.1.length≤8:=by
   unfold okT at ho
   split at ho
   ·simp at ho;rw[ho.2];simp
   ·split at ho
    ·simp at ho;exact may_names false _ ho.2
    ·simp at ho;rw[ho.2];simp
  have h4:=print_sumP t.parts h3;refine⟨by have:=h.word;omega,hn,by omega,fun p hp=>by have:=h3 p hp;omega,fun p hp=>by have:=txSum_mem hp;omega,?_⟩;unfold print;rw[List.length_cons,List.length_append,List.length_singleton];omega
theorem fitP_read {s:Bs} {ts:List Tok} (h:∀ t∈ts,Read1 s.length t) (hl:ts.length≤s.length) (hs:s.length≤1000):FitP ts:=⟨fun t ht=>(h t ht).ok,fun t ht=>fit_readP (h t ht) hs,by omega⟩
theorem scan_fitP (s:ByteArray) (hs:s.size≤1000):(∃ q e,scan s.data.toList=(none,q,e)∧(e=1∨e=2∨e=3))∨∃ ts,scan s.data.toList=(some ts,0,0)∧FitP ts∧ts.length≤1000:=by
 have hl:s.data.toList.length≤1000:=by rw[len_data];omega
 rcases scan_cases s.data.toList with ⟨q,e,h,he,_⟩ | ⟨out,h,h1,h2,_⟩
 ·exact .inl ⟨q,e,h,he⟩
 ·exact .inr ⟨out,h,fitP_read h1 h2 hl,by omega⟩
def peO (R:OutP):PeP:=R.1.getD ⟨0,[]⟩
def PostPe (w:World) (R:OutP) (e:Ending) (w':World):Prop:=∃ (A:Option Addr) (m c:Nat),e= .returned (.tuple #[.agg #[.int .i64 (peO R).cap,.slice A m c],.int .i64 R.2.1,.int .i64 R.2.2])∧RdX w'.heap.size w' A m (peO R).places∧Below w.heap.size w w'
theorem docp_new {w:World} {S:ByteArray} {A:Option Addr} {n c:Nat} {l:List Tok} (h:RdT w.heap.size w A n l) (hf:FitP l) (hn:n≤4000) (T:TypeId):DocP w.heap.size (w.alloc (.cells #[.string S,.slice A n c,.int .i64 0,.int .i64 0,.int .i64 0,.int .i64 0,.int .i64 0,.slice none 0 0,.slice none 0 0] T)) S A n c l 0 0 [] [] 0 (.slice none 0 0) (.slice none 0 0):=by
 have hb:Below w.heap.size w (w.alloc (.cells #[.string S,.slice A n c,.int .i64 0,.int .i64 0,.int .i64 0,.int .i64 0,.int .i64 0,.slice none 0 0,.slice none 0 0] T)):=one_boxP w _;have na:∀ j u,(#[.string S,.slice A n c,.int .i64 0,.int .i64 0,.int .i64 0,.int .i64 0,.int .i64 0,.slice none 0 0,.slice none 0 0]:Array Value)[j]?=some u→_:=newP_at w T #[.string S,.slice A n c,.int .i64 0,.int .i64 0,.int .i64 0,.int .i64 0,.int .i64 0,.slice none 0 0,.slice none 0 0];exact⟨na 0 _ rfl,na 1 _ rfl,⟨0,0,na 2 _ rfl,na 3 _ rfl,Nat.zero_le _,fun _=>⟨rfl,rfl⟩,fun e=>absurd rfl e⟩,na 4 _ rfl,⟨0,0,na 5 _ rfl,na 6 _ rfl,fun _=>rfl⟩,na 7 _ rfl,na 8 _ rfl,fun j _=>by simp[go_sem],⟨⟨[],[],World.ownsRow_nil _ _ _ _,World.ownsRow_nil _ _ _ _,rfl,fun _=>⟨rfl,rfl⟩,Nat.zero_le _⟩,fun g hg=>by cases hg⟩,h.keep hb,hf,Nat.zero_le _,.inl rfl,hn⟩
theorem start_rr (N:Nat) (l:List Tok) (t:Tok) {R1:Rp Unit} {R2:Rp Tok} (h1:gateR 0 0 (needP l 1 wCap 0)=R1) (h2:gateR R1.err R1.at (takeP l 2 R1.at)=R2) (ht:∀ y j s g,R2= .ok y j s g→y=t):RrX N l (outPe N l) t.n [] 0 R2.at R2.err (if R2.err=0∧(t.n<1∨16<t.n) then [(R1.at,2)] else []) [] 0 (restX l t.n (l.length+1) [] 0 R2.at):=by
 refine⟨?_,fun _=>⟨Nat.zero_le _,Nat.zero_le _,trivial,rfl⟩,by simp,by simp⟩;have h1':needP l 1 wCap 0=R1:=h1;have hal:allP l=(needP l 1 wCap 0).then fun _ i=>(takeP l 2 i).then fun t j=>Rp.met (decide (t.n<1∨16<t.n)) i 2 ((placesP l t.n (l.length+1) [] 0 j).then fun xs m=> .ok ⟨t.n,xs⟩ m [] []):=rfl
 unfold outPe;rw[hal,h1']
 cases R1 with
 | bad j=>
   have h2':R2= .bad j:=h2.symm;subst h2';exact(fin_bad (o:=1) (by decide) j _ _ _ _).symm
 | ok u j s g=>
   obtain⟨rfl,rfl,rfl, -⟩:=need_ok h1';have h2':takeP l 2 (0+1)=R2:=h2;rw[Rp.ok_then,h2']
   cases R2 with
   | bad j=>exact(fin_bad (o:=1) (by decide) j _ _ _ _).symm
   | ok y j s g=>
     obtain⟨rfl,rfl,rfl, -⟩:=take_ok h2';obtain rfl:=ht _ _ _ _ rfl;rw[Rp.ok_then];have hr:restX l y.n (l.length+1) [] 0 (0+1+1)=placesP l y.n (l.length+1) [] 0 (0+1+1):=if_pos (.inl rfl);show _=finX N l y.n [] _ [] (gateR 0 (0+1+1) (restX l y.n (l.length+1) [] 0 (0+1+1)));rw[hr];show _=finX N l y.n [] _ [] (placesP l y.n (l.length+1) [] 0 (0+1+1))
     cases placesP l y.n (l.length+1) [] 0 (0+1+1) with
     | bad m=>rfl
     | ok ys m s' g'=>
       simp only[Rp.then,Rp.met,finX,finL,List.append_nil,List.nil_append,Rp.err,true_and];by_cases hb:y.n<1∨16<y.n
       ·rw[decide_eq_true hb,if_pos rfl,if_pos hb];rfl
       ·rw[decide_eq_false hb,if_neg (by decide),if_neg hb];rfl
def PostL (w:World) (R:OutP) (e:Ending) (w':World):Prop:=∃ (A:Option Addr) (m c:Nat),e= .returned (.tuple #[.agg #[.int .i64 (peO R).cap,.slice A m c],.int .i64 R.2.1,.int .i64 R.2.2])∧(∀ W',(∀ g,w.heap.size≤g→W'.heap[g]?=w'.heap[g]?)→RdX W'.heap.size W' A m (peO R).places)∧Below w.heap.size w w'
abbrev LinkC (S:ByteArray) (A:Option Addr) (n c:Nat) (l:List Tok):Prop:=Hid (∀ (w0 W:World) (b pb k:Nat) (sf:Sf) (gs:Gs) (qq:Nat) (vN vG:Value) (cap:Int) (vX:Value) (q:List Pv),PaP w0 b pb W S A n c l k 0 sf gs qq vN vG cap vX q→okX 0 (q.map (·.1))→goesX (q.map (·.1))=gs.length→(∀ y∈gs,y.2<l.length)→q.length≤4001→(∀ x∈q,x.1.edges.length≤4001)→
 Calls Tryz.prog 39 #[.pointer (some ⟨b,0,none⟩),.agg #[.int .i64 cap,vX]] W (PostL w0 (finL l cap (q.map (·.1)) sf gs)))
theorem PaP.setcap {w W:World} {b pb:Nat} {S:ByteArray} {A:Option Addr} {n c:Nat} {l:List Tok} {k o:Nat} {sf:Sf} {gs:Gs} {qq:Nat} {vN vG:Value} {cap:Int} {vX:Value} {q:List Pv} (h:PaP w b pb W S A n c l k o sf gs qq vN vG cap vX q) (cap':Int):PaP w b pb (W.setCell ⟨pb,0,none⟩ (.int .i64 cap')) S A n c l k o sf gs qq vN vG cap' vX q:=
 have hb:=h.hb;have hp:=h.hp
 ⟨h.rd.other (a:=⟨pb,0,none⟩) h.hp h.se.1 h.se.2 _,h.low.setCell (by show w.heap.size≤pb;omega) _,h.hb,h.hp,h.box.set 0 (by simp) _,h.se,h.own.keep fun g hg=>Below.heap_setCell _ _ _ _ (by have:=(h.own.lt g hg).1;show g≠pb;omega)⟩
theorem PaP.note {w W:World} {b pb:Nat} {S:ByteArray} {A:Option Addr} {n c:Nat} {l:List Tok} {k o:Nat} {sf:Sf} {gs:Gs} {qq:Nat} {vN vG:Value} {cap:Int} {vX:Value} {q:List Pv} (h:PaP w b pb W S A n c l k o sf gs qq vN vG cap vX q) (sf':Sf) (hs:o=0→softsP l none sf'=softsP l none sf):PaP w b pb W S A n c l k o sf' gs qq vN vG cap vX q:=
 ⟨h.rd.noting sf' hs,h.low,h.hb,h.hp,h.box,h.se,h.own⟩
theorem flat_atP {α:Type} {cf:α→List Value} {s:Nat} (hs:∀ x,(cf x).length=s):∀ (es:List α) (j:Nat) (x:α),es[j]?=some x→∀ i u,(cf x)[i]?=some u→(es.flatMap cf)[j * s+i]?=some u
 | [],j,x,h,_,_,_=>by simp at h
 | y::es,0,x,h,i,u,hu=>by
   injection h with h;subst h
   rw[List.flatMap_cons,List.getElem?_append_left (by rw[Nat.zero_mul,Nat.zero_add];exact(List.getElem?_eq_some_iff.1 hu).1),Nat.zero_mul,Nat.zero_add];exact hu
 | y::es,j+1,x,h,i,u,hu=>by
   have:=flat_atP hs es j x (by simpa using h) i u hu;rw[List.flatMap_cons,List.getElem?_append_right (by rw[hs,Nat.add_mul];omega),hs,show (j+1) * s+i - s=j * s+i by rw[Nat.add_mul];omega];exact this
theorem take_snocP {α:Type} {l:List α} {k:Nat} {x:α} (h:l[k]?=some x):l.take (k+1)=l.take k++[x]:=by
 rw[List.take_succ_eq_append_getElem (List.getElem?_eq_some_iff.1 h).1,(List.getElem?_eq_some_iff.1 h).2]
theorem contains_snocP {a:List Bs} {y W:Bs}:(a++[y]).contains W=(a.contains W || decide (y=W)):=by
 rw[Bool.eq_iff_iff,Bool.or_eq_true,List.contains_iff_mem,List.contains_iff_mem,decide_eq_true_iff,List.mem_append,List.mem_singleton]
 constructor
 ·rintro(h | h)
  ·exact .inl h
  ·exact .inr h.symm
 ·rintro(h | h)
  ·exact .inl h
  ·exact .inr h.symm
theorem bytes_injP {a b:Bs} (h:(⟨a.toArray⟩:ByteArray)=⟨b.toArray⟩):a=b:=by
 have:=congrArg (fun z:ByteArray=>z.data.toList) h;simpa using this
theorem PaE.grown_box {w W W':World} {b pb xb:Nat} {S:ByteArray} {A:Option Addr} {n c:Nat} {l:List Tok} {k o:Nat} {sf:Sf} {gs:Gs} {qq:Nat} {vN vG:Value} {cap:Int} {vX:Value} {q:List Pv} {nm:ByteArray} {ec:Bool} {vE:Value} {es:List EdP} (h:PaE w b pb xb W S A n c l k o sf gs qq vN vG cap vX q nm ec vE es) (hg:W.grownBy W' vE.ownBlock):BoxP W' xb [.string nm,.bool ec,vE]:=
 h.box.block (hg.block xb (h.box.lt (by simp)) (fun e=>by have:=(h.row.lt xb e.symm).1;omega))
theorem PaE.grown_pb {w W W':World} {b pb xb:Nat} {S:ByteArray} {A:Option Addr} {n c:Nat} {l:List Tok} {k o:Nat} {sf:Sf} {gs:Gs} {qq:Nat} {vN vG:Value} {cap:Int} {vX:Value} {q:List Pv} {nm:ByteArray} {ec:Bool} {vE:Value} {es:List EdP} (h:PaE w b pb xb W S A n c l k o sf gs qq vN vG cap vX q nm ec vE es) (hg:W.grownBy W' vX.ownBlock):BoxP W' pb [.int .i64 cap,vX]:=
 h.pa.box.block (hg.block pb h.pa.at_.1 (fun e=>by have:=(h.pa.own.row.lt pb e.symm).1;omega))
theorem ba_backP (T:ByteArray):(⟨T.data.toList.toArray⟩:ByteArray)=T:=by cases T;simp
theorem infoEdP:(Tryz.prog.info? 39).map (fun i=>(i.zero,i.size,i.bytes))=some (some (.agg #[.int .i64 0,.string ⟨#[]⟩,.int .i64 0,.int .i64 0,.int .i64 0]),5,48):=by kernel_rfl
theorem infoPlP:(Tryz.prog.info? 42).map (fun i=>(i.zero,i.size,i.bytes))=some (some (.agg #[.string ⟨#[]⟩,.bool false,.slice none 0 0]),3,48):=by kernel_rfl
abbrev ldEa:Op:= .load 40 (.tmp 169)
abbrev ldEb:Op:= .load 40 (.tmp 172)
theorem oneEdP (k lo hi tt:Int) (T:ByteArray):∀ u∈[Value.int .i64 k,.string T,.int .i64 lo,.int .i64 hi,.int .i64 tt],u.oneCell'=true:=by
 intro u hu;simp only[List.mem_cons,List.not_mem_nil,or_false] at hu
 rcases hu with rfl | rfl | rfl | rfl | rfl <;> rfl
theorem onePlP (T:ByteArray) (b:Bool) (A:Option Addr) (n c:Nat):∀ u∈[Value.string T,.bool b,.slice A n c],u.oneCell'=true:=by
 intro u hu;simp only[List.mem_cons,List.not_mem_nil,or_false] at hu
 rcases hu with rfl | rfl | rfl <;> rfl
abbrev zeroPe:List Value:=[.int .i64 0,.slice none 0 0]
section
def fndP (ns:List Bs) (w:Bs) (j:Nat):Int:=if w∈ns.drop j then j+(ns.drop j).idxOf w else -1
theorem fnd_end {ns:List Bs} {w:Bs} {j:Nat} (h:¬ j<ns.length):fndP ns w j= -1:=by
 unfold fndP;rw[List.drop_of_length_le (by omega),if_neg (by simp)]
theorem fnd_step {ns:List Bs} {w y:Bs} {j:Nat} (h:ns[j]?=some y):fndP ns w j=if y=w then (j:Int) else fndP ns w (j+1):=by
 have hj:=(List.getElem?_eq_some_iff.1 h).1
 have hd:ns.drop j=y::ns.drop (j+1):=by
  rw[List.drop_eq_getElem_cons hj,(List.getElem?_eq_some_iff.1 h).2]
 unfold fndP;rw[hd];by_cases e:y=w
 ·subst e
  rw[if_pos (by simp),if_pos rfl,List.idxOf_cons_self];simp
 ·rw[if_neg e]
  by_cases hm:w∈ns.drop (j+1)
  ·rw[if_pos (List.mem_cons_of_mem _ hm),if_pos hm,List.idxOf_cons,beq_false_of_ne e]
   simp only[cond_false];omega
  ·rw[if_neg (by intro q;rcases List.mem_cons.1 q with q | q;exact e q.symm;exact hm q),if_neg hm]
theorem fnd_zero (ns:List Bs) (w:Bs):fndP ns w 0=idxP ns w:=by
 unfold fndP idxP;rw[List.drop_zero]
 split <;> simp
theorem take_snQ {α:Type} {l:List α} {k:Nat} {x:α} (h:l[k]?=some x):l.take (k+1)=l.take k++[x]:=by
 rw[List.take_succ_eq_append_getElem (List.getElem?_eq_some_iff.1 h).1,(List.getElem?_eq_some_iff.1 h).2]
def updP {α:Type} (f:α→α) (k:Nat) (l:List α):List α:=(l.take k).map f++l.drop k
section
variable {α:Type} {f:α→α} {k:Nat} {l:List α} {x:α}
theorem upd_zero:updP f 0 l=l:=by unfold updP;simp
theorem upd_all (h:¬ k<l.length):updP f k l=l.map f:=by
 unfold updP;rw[List.take_of_length_le (by omega),List.drop_of_length_le (by omega),List.append_nil]
theorem upd_len:(updP f k l).length=l.length:=by
 unfold updP;rw[List.length_append,List.length_map,List.length_take,List.length_drop];omega
theorem upd_at (h:l[k]?=some x):(updP f k l)[k]?=some x:=by
 have hk:=(List.getElem?_eq_some_iff.1 h).1;unfold updP;rw[List.getElem?_append_right (by rw[List.length_map,List.length_take];omega),List.length_map,List.length_take,Nat.min_eq_left (by omega),Nat.sub_self,List.getElem?_drop];exact h
theorem upd_set (h:l[k]?=some x):(updP f k l).set k (f x)=updP f (k+1) l:=by
 have hk:=(List.getElem?_eq_some_iff.1 h).1;unfold updP;rw[List.set_append_right _ _ (by rw[List.length_map,List.length_take];omega),List.length_map,List.length_take,Nat.min_eq_left (by omega),Nat.sub_self,List.drop_eq_getElem_cons hk,List.set_cons_zero,take_snQ h,List.map_append,List.append_assoc];rfl
theorem upd_same (h:l[k]?=some x):(updP f k l).set k x=updP f k l:=by
 have h1:=upd_at (f:=f) h;obtain⟨h2,h3⟩:=List.getElem?_eq_some_iff.1 h1;rw[←h3,List.set_getElem_self]
end
theorem linkS_take {ns:List Bs} {gs:Gs} {m:Nat} {y:Bs × Nat} (h:gs[m]?=some y):linkS ns (gs.take (m+1))=linkS ns (gs.take m)++if y.1∈ns then [] else [(y.2,6)]:=by
 rw[take_snQ h];unfold linkS;rw[List.filterMap_append]
 congr 1
 by_cases e:y.1∈ns
 ·simp[e]
 ·simp[e]
theorem goesX_app (a b:List PlP):goesX (a++b)=goesX a+goesX b:=by
 induction a with
 | nil=>rw[List.nil_append,goesX];omega
 | cons x a ih=>rw[List.cons_append,goesX,goesX,ih];omega
theorem goesL_app (a b:List EdP):goesL (a++b)=goesL a+goesL b:=by
 induction a with
 | nil=>show goesL b=0+goesL b;omega
 | cons x a ih=>rw[List.cons_append,goesL_cons,goesL_cons,ih];omega
theorem goesX_take {xs:List PlP} {i:Nat} {x:PlP} (h:xs[i]?=some x):goesX (xs.take (i+1))=goesX (xs.take i)+goesL x.edges:=by rw[take_snQ h,goesX_snoc]
theorem goesL_take {es:List EdP} {k:Nat} {e:EdP} (h:es[k]?=some e):goesL (es.take (k+1))=goesL (es.take k)+goesP e:=by rw[take_snQ h,goesL_snoc]
theorem okX_at:∀ (xs:List PlP) (g i:Nat) (x:PlP),okX g xs→xs[i]?=some x→okE (g+goesX (xs.take i)) x.edges
 | [],_,_,_,_,h=>by cases h
 | y::xs,g,0,x,h,hx=>by injection hx with hx;subst hx;exact h.1
 | y::xs,g,i+1,x,h,hx=>by
   have:=okX_at xs _ i x h.2 (by simpa using hx);rw[List.take_succ_cons,goesX,←Nat.add_assoc];exact this
theorem okE_at:∀ (es:List EdP) (g k:Nat) (e:EdP),okE g es→es[k]?=some e→e.kind=3∨e.to=(g+goesL (es.take k):Nat)
 | [],_,_,_,_,h=>by cases h
 | y::es,g,0,e,h,he=>by injection he with he;subst he;exact h.1
 | y::es,g,k+1,e,h,he=>by
   have:=okE_at es _ k e h.2 (by simpa using he);rw[List.take_succ_cons,goesL_cons,←Nat.add_assoc];exact this
theorem goes_lt {xs:List PlP} {i k:Nat} {x:PlP} {e:EdP} (hx:xs[i]?=some x) (he:x.edges[k]?=some e) (h3:¬ e.kind=3):goesX (xs.take i)+goesL (x.edges.take k)<goesX xs:=by
 have h1:=goesX_take hx;have h2:=goesL_take he;have h4:goesX xs=goesX (xs.take (i+1))+goesX (xs.drop (i+1)):=by rw[←goesX_app,List.take_append_drop]
 have h5:goesL x.edges=goesL (x.edges.take (k+1))+goesL (x.edges.drop (k+1)):=by rw[←goesL_app,List.take_append_drop]
 have h6:goesP e=1:=by unfold goesP;rw[if_neg h3]
 omega
def putTo (e:EdP) (t:Int):EdP:=⟨e.kind,e.text,e.lo,e.hi,t⟩
theorem cellsE_set:∀ (es:List EdP) (k:Nat) (e:EdP) (t:Int),es[k]?=some e→cellsE (es.set k (putTo e t))=(cellsE es).set (k * 5+4) (.int .i64 t)
 | [],_,_,_,h=>by cases h
 | y::es,0,e,t,h=>by injection h with h;subst h;rfl
 | y::es,k+1,e,t,h=>by
   have:=cellsE_set es k e t (by simpa using h);rw[List.set_cons_succ];show cellE y++cellsE (es.set k (putTo e t))=(cellE y++cellsE es).set _ _;rw[this,List.set_append_right _ _ (by show (cellE y).length≤_;simp[cellE];omega),show (cellE y).length=5 from rfl,show (k+1) * 5+4 - 5=k * 5+4 by omega]
theorem cellsX_set:∀ (q:List Pv) (i:Nat) (x:Pv) (y:PlP),q[i]?=some x→y.name=x.1.name→y.echo=x.1.echo→cellsX (q.set i (y,x.2))=cellsX q
 | [],_,_,_,h,_,_=>by cases h
 | z::q,0,x,y,h,h1,h2=>by
   injection h with h;subst h
   show cellX (y,z.2)++cellsX q=cellX z++cellsX q;unfold cellX;rw[h1,h2]
 | z::q,i+1,x,y,h,h1,h2=>by
   have:=cellsX_set q i x y (by simpa using h) h1 h2;rw[List.set_cons_succ];show cellX z++cellsX (q.set i (y,x.2))=cellX z++cellsX q;rw[this]
theorem OwnXs.setTo {B:Nat} {w:World} {v:Value} {q:List Pv} {i k g cap:Nat} {x:PlP} {e:EdP} (h:OwnXs B w v q) (hx:q[i]?=some (x,.slice (some ⟨g,0,none⟩) x.edges.length cap)) (he:x.edges[k]?=some e) (t:Int):OwnXs B (w.setCell ⟨g,k * 5+4,none⟩ (.int .i64 t)) v (q.set i (⟨x.name,x.echo,x.edges.set k (putTo e t)⟩,.slice (some ⟨g,0,none⟩) x.edges.length cap)):=by
 have hm:=List.mem_of_getElem? hx;have hkid:=h.kids _ hm;have hil:=(List.getElem?_eq_some_iff.1 hx).1;have hie:=(List.getElem?_eq_some_iff.1 hx).2
 have hv:v.ownBlock≠some g:=fun e1=>by
  obtain⟨c1,t1⟩:=own_type h.row e1;obtain⟨c2,t2⟩:=own_type hkid (g:=g) rfl;rw[t1] at t2;injection t2 with t2
  injection t2 with _ t3
  exact absurd t3 (by decide)
 have ap:=h.ap
 have hne:∀ j,j<q.length→j≠i→∀ y,q[j]?=some y→y.2.ownBlock≠some g:=fun j hj hji y hy e1=>by
  rw[List.pairwise_iff_getElem] at ap;have hye:=(List.getElem?_eq_some_iff.1 hy).2
  rcases Nat.lt_or_gt_of_ne hji with c | c
  ·have:=ap j i hj hil c g (by rw[hye];exact e1)
   rw[hie] at this;exact this rfl
  ·have:=ap i j hil hj c g (by rw[hie];rfl)
   rw[hye] at this;exact this e1
 refine⟨?_,fun y hy=>?_,?_⟩
 ·rw[List.length_set,cellsX_set q i _ ⟨x.name,x.echo,x.edges.set k (putTo e t)⟩ hx rfl rfl]
  exact row_kept h.row fun g' hg'=>Below.heap_setCell _ _ _ _ (fun e1=>hv (by rw[hg',e1]))
 ·obtain⟨j,hj,hjy⟩:=List.getElem_of_mem hy
  rw[List.length_set] at hj;by_cases c:i=j
  ·subst c
   rw[List.getElem_set_self] at hjy;subst hjy;show World.ownsRow _ _ _ _ _ (x.edges.set k (putTo e t)).length _;rw[List.length_set,cellsE_set x.edges k e t he];exact(hkid.stored (k * 5+4) (.int .i64 t)).1
  ·rw[List.getElem_set_ne c] at hjy
   have hy':q[j]?=some y:=by rw[List.getElem?_eq_getElem hj,hjy]
   refine row_kept (h.kids y (List.mem_of_getElem? hy')) fun g' hg'=>Below.heap_setCell _ _ _ _ (fun e1=>hne j hj (fun e2=>c e2.symm) y hy' (by rw[hg'];exact congrArg some e1))
 ·rw[List.pairwise_iff_getElem] at ap ⊢
  intro a b ha hb hab;rw[List.length_set] at ha hb
  have key:∀ m (hm:m<q.length) (hm':m<(q.set i (⟨x.name,x.echo,x.edges.set k (putTo e t)⟩,.slice (some ⟨g,0,none⟩) x.edges.length cap)).length),((q.set i (⟨x.name,x.echo,x.edges.set k (putTo e t)⟩,.slice (some ⟨g,0,none⟩) x.edges.length cap))[m]).2=(q[m]).2:=by
   intro m hm hm';by_cases c:i=m
   ·subst c;rw[List.getElem_set_self,hie]
   ·rw[List.getElem_set_ne c]
  rw[key a ha _,key b hb _];exact ap a b ha hb hab
theorem PaP.setTo {w W:World} {b pb:Nat} {S:ByteArray} {A:Option Addr} {n c:Nat} {l:List Tok} {k o:Nat} {sf:Sf} {gs:Gs} {qq:Nat} {vN vG:Value} {cap:Int} {vX:Value} {q:List Pv} {i j g cp:Nat} {x:PlP} {e:EdP} (h:PaP w b pb W S A n c l k o sf gs qq vN vG cap vX q) (hx:q[i]?=some (x,.slice (some ⟨g,0,none⟩) x.edges.length cp)) (he:x.edges[j]?=some e) (t:Int):PaP w b pb (W.setCell ⟨g,j * 5+4,none⟩ (.int .i64 t)) S A n c l k o sf gs qq vN vG cap vX (q.set i (⟨x.name,x.echo,x.edges.set j (putTo e t)⟩,.slice (some ⟨g,0,none⟩) x.edges.length cp)):=by
 have hg:HasX vX q g:= .inr ⟨_,List.mem_of_getElem? hx,rfl⟩;have hlt:=(h.own.lt g hg).1;have hbp:=h.hp;have hbb:=h.hb;obtain⟨ns,ats,r1,r2, -⟩:=h.rd.own.ex;exact⟨h.rd.other (a:=⟨g,j * 5+4,none⟩) (by show b<g;omega) (h.own.ne r1 (by decide) (by decide) hg) (h.own.ne r2 (by decide) (by decide) hg) _,h.low.setCell (by show w.heap.size≤g;omega) _,h.hb,h.hp,h.box.other (a:=⟨g,j * 5+4,none⟩) (by show g≠pb;omega) _,h.se,h.own.setTo hx he t⟩
theorem flat_atE {α:Type} {cf:α→List Value} {s:Nat} (hs:∀ x,(cf x).length=s):∀ (es:List α) (j:Nat) (x:α),es[j]?=some x→∀ i u,(cf x)[i]?=some u→(es.flatMap cf)[j * s+i]?=some u
 | [],j,x,h,_,_,_=>by simp at h
 | y::es,0,x,h,i,u,hu=>by
   injection h with h;subst h
   rw[List.flatMap_cons,List.getElem?_append_left (by rw[Nat.zero_mul,Nat.zero_add];exact(List.getElem?_eq_some_iff.1 hu).1),Nat.zero_mul,Nat.zero_add];exact hu
 | y::es,j+1,x,h,i,u,hu=>by
   have:=flat_atE hs es j x (by simpa using h) i u hu;rw[List.flatMap_cons,List.getElem?_append_right (by rw[hs,Nat.add_mul];omega),hs,show (j+1) * s+i - s=j * s+i by rw[Nat.add_mul];omega];exact this
theorem OwnXs.read {B:Nat} {w:World} {v:Value} {q:List Pv} (h:OwnXs B w v q):∃ A c,v= .slice A q.length c∧RdX w.heap.size w A q.length (q.map (·.1)):=by
 have hkid:∀ x∈q,∃ A' c',x.2= .slice A' x.1.edges.length c'∧RdE5 w.heap.size w A' x.1.edges.length x.1.edges:=fun x hx=>by
  have hk:=h.kids x hx
  rcases hk.2 with ⟨e1,h0⟩ | ⟨g,cap,cur,e1,hb,hg,_⟩
  ·exact⟨none,0,by rw[e1,h0],rfl,fun hn=>by omega⟩
  ·refine⟨_,_,e1,rfl,fun hn=>⟨_,rfl,(Array.getElem?_eq_some_iff.1 hg).1,fun i e he=>?_⟩⟩
   have hc:=hk.cells (g:=g) (by rw[e1];rfl);have hf:=fun m u hu=>flat_atE (cf:=cellE) (s:=5) (fun _=>rfl) x.1.edges i e he m u hu
   have go:∀ m u,(cellE e)[m]?=some u→w.cell? ⟨g,i * 5+m,none⟩=some u:=fun m u hu=>by
    have:=hc _ _ (hf m u hu);rw[Addr.add_lit,Nat.zero_add] at this;exact this
   rw[Addr.add_lit,Nat.zero_add];exact⟨go 0 _ rfl,go 1 _ rfl,go 2 _ rfl,go 3 _ rfl,go 4 _ rfl⟩
 rcases h.row.2 with ⟨e1,h0⟩ | ⟨g,cap,cur,e1,hb,hg,_⟩
 ·exact⟨none,0,by rw[e1,h0],by simp,fun hn=>by omega⟩
 ·refine⟨_,_,e1,by simp,fun hn=>⟨_,rfl,(Array.getElem?_eq_some_iff.1 hg).1,fun i x hx=>?_⟩⟩
  rw[List.getElem?_map,Option.map_eq_some_iff] at hx;obtain⟨y,hy,rfl⟩:=hx;obtain⟨A',c',e2,hr⟩:=hkid y (List.mem_of_getElem? hy);have hc:=h.row.cells (g:=g) (by rw[e1];rfl)
  have go:∀ m u,(cellX y)[m]?=some u→w.cell? ⟨g,i * 3+m,none⟩=some u:=fun m u hu=>by
   have:=hc _ _ (flat_atE (cf:=cellX) (s:=3) (fun _=>rfl) q i y hy m u hu);rw[Addr.add_lit,Nat.zero_add] at this;exact this
  refine⟨A',c',?_,hr⟩;rw[Addr.add_lit,Nat.zero_add];exact⟨go 0 _ rfl,go 1 _ rfl,by rw[←e2];exact go 2 _ rfl⟩
end
end Go.Proofs.YtdobinjbejagcaaGreatDoor
