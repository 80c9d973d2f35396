import Derived.Test.YtejgbpbljdhndaaDoorH17
import Derived.Deep.Cut
namespace Go.Proofs.YtejgbpbljdhndaaDoor
open Go Go.RowKit
set_option maxRecDepth 100000
set_option maxHeartbeats 8000000
section
variable {c:Cx} {w w':World} {O O':Tab} {o o':WO} {p0:Nat} {pre ps:List Trk} {t:Trk}
theorem TrkOk.up {part:Nat} (h:TrkOk c w part p0 t) (htp:∀ p l,TrailP w p l→TrailP w' p l):TrkOk c w' part p0 t:=by
 obtain⟨⟨l,a,b⟩,d⟩:=h;exact⟨⟨l,htp _ _ a,b⟩,d⟩
theorem TrkOk.tr {part:Nat} (h:TrkOk c w part p0 t) (n:Nat):TrkOk c w part p0 { t with tried:=n }:=h
theorem x1t (hT:TabF c.T) (h:OInv c w O o p0 []) (htr:o.tr=pre++[t]) (hc:(t.tried=0∧¬ o.C t.x)∨0<t.tried) (hd:t.x.done=0) {nd:Nd} (hn:c.T[t.x.part]?=some nd) (hk5:nd.r.kind=5) (hkl:nd.kids.length≤64) {q:Nat} (hq:nd.kids[t.tried]?=some q) (hls:c.lim≤c.bs.length)
  (hat:WaysAt c.fb w' o') (hp:o'.part=o.part) (hC:∀ y,o'.C y ↔ o.C y∨y=t.x) (htr':o'.tr=pre++((if t.tried+1<nd.kids.length then [{ t with tried:=t.tried+1 }] else [])++[fresh t.tl (atPart t.x q)])) (hfd:o'.found=o.found) (hmp:o'.mp=o.mp)
  (htp:∀ p l,TrailP w p l→TrailP w' p l):Next c w O o p0 o' w' O []:=by
 have hk:=h.tk t (by rw[htr];simp);obtain⟨hb,hbf⟩:=hk.bd hT;have hjl:t.tried<nd.kids.length:=(List.getElem?_eq_some_iff.mp hq).1;have hw1:wt (fresh t.tl (atPart t.x q))=1:=rfl
 have hsum:(((if t.tried+1<nd.kids.length then [{ t with tried:=t.tried+1 }] else [])++[fresh t.tl (atPart t.x q)]).map wt).sum≤2 * (64 - t.tried)+2:=by
  split
  ·simp only[List.map_append,List.map_cons,List.map_nil,List.sum_append,List.sum_cons,List.sum_nil,hw1]
   unfold wt;dsimp only;rw[if_neg (by omega)];omega
  ·simp only[List.nil_append,List.map_cons,List.map_nil,List.sum_cons,List.sum_nil,hw1];omega
 have hlt:meas c o'<meas c o:=by
  rcases hc with ⟨h0,hnc⟩ | h0
  ·exact z4g hC (fun y hy=>(h.cb y hy).1) hb hnc htr htr' (Nat.le_trans hsum (by omega))
  ·refine z6d hC (h.tk2 t (by rw[htr];simp) h0).1 htr htr' (Nat.lt_of_le_of_lt hsum ?_)
   unfold wt;rw[if_neg (by omega)];omega
 have hent:∀ (i:Nat) (y:Spo),(entN c.bs c.lim nd t.x).1[i]?=some y→∃ q',nd.kids[i]?=some q'∧y=atPart t.x q':=fun i y hy=>by
  rw[ent_5 hk5] at hy;dsimp only at hy;rw[List.getElem?_map] at hy;obtain⟨q',g1,g2⟩:=Option.map_eq_some_iff.1 hy;exact⟨q',g1,g2.symm⟩
 have hpl:=hk.2.2;refine⟨h.step htr hat hp hC ⟨hb,hbf⟩ htr' hfd hmp htp (MonoT.refl O) (fun t' ht'=>?_) (fun t' ht' h1=>?_) (fun nd' hn'=>?_) (fun _ h2=>by omega) (fun _ q=>by cases q) (by simpa using h.nodup) (Nat.le_of_lt hlt),hlt⟩
 ·rw[List.mem_append,List.mem_singleton] at ht'
  rcases ht' with ht' | rfl
  ·split at ht'
   ·rw[List.mem_singleton] at ht';subst ht';exact(hk.tr _).up htp
   ·cases ht'
  ·obtain⟨⟨l,hl1,hl2⟩,hm,_⟩:=hk
   have hy:atPart t.x q∈(entN c.bs c.lim nd t.x).1:=by
    rw[ent_5 hk5];exact List.mem_map.2 ⟨q,List.mem_of_getElem? hq,rfl⟩
   have h1:=y2c (to:=c.lim) hT hl2 hn hd (by omega) _ hy;obtain⟨g1,g2⟩:=x0f hT hn hb.ge hpl hm _ hy;rw[ent_5 hk5] at h1;exact⟨⟨l,htp _ _ hl1,h1⟩,g1,g2⟩
 ·rw[List.mem_append,List.mem_singleton] at ht'
  rcases ht' with ht' | rfl
  ·split at ht'
   ·rename_i hlt2
    rw[List.mem_singleton] at ht';subst ht';exact⟨rfl,(hC _).2 (.inr rfl),by dsimp only;omega,by dsimp only;omega,fun _=>⟨nd,hn,hk5,hlt2⟩,fun h2=>by dsimp only at h2;omega⟩
   ·cases ht'
  ·exact absurd h1 (by show ¬ 0<0;omega)
 ·rw[hn] at hn';injection hn' with hn';subst hn'
  refine⟨fun _ i y hy=>?_,fun h1=>by omega,fun h2=>by omega⟩;obtain⟨q',g1,rfl⟩:=hent i y hy;have hil:i<nd.kids.length:=(List.getElem?_eq_some_iff.mp g1).1
  rcases Nat.lt_trichotomy i t.tried with hlt' | heq | hgt
  ·have h0:0<t.tried:=by omega
   rcases(h.spec _ nd (h.tk2 t (by rw[htr];simp) h0).1 hn).ent hd i _ hy with r | ⟨t',r1,r2,r3,r4⟩
   ·exact .inl (r.of htr htr' hC)
   ·rw[htr,List.mem_append,List.mem_singleton] at r1
    rcases r1 with r1 | rfl
    ·exact .inr ⟨t',by rw[htr',List.mem_append];exact .inl r1,r2,r3,r4⟩
    ·omega
  ·subst heq
   rw[hq] at g1;injection g1 with g1;subst g1
   refine .inl (.inr ⟨fresh t.tl (atPart t.x q),?_,rfl,rfl⟩);rw[htr'];simp
  ·refine .inr ⟨{ t with tried:=t.tried+1 },?_,rfl,by dsimp only;omega,by dsimp only;omega⟩
   rw[htr',if_pos (by omega)];simp
theorem y8n (hT:TabF c.T) (h:OInv c w O o p0 []) (htr:o.tr=pre++[t]) (hc:(t.tried=0∧¬ o.C t.x)∨0<t.tried) (hd:2≤t.x.done) {nd kd:Nd} (hn:c.T[t.x.part]?=some nd) (hkd:c.T[nd.kids.headD 0]?=some kd) {o1:WO} (ho1:O' (nd.kids.headD 0) t.x.place=some o1) {j:Nat} {f:Way1} {tl:Option Nat}
  (hj:t.tried<j) (hj64:j≤64) (hf:o1.found[j - 1]?=some f) (hfq:timeQ nd t.x f.stop=true) (hsk:∀ (i:Nat) (g:Way1),t.tried≤i→i<j - 1→o1.found[i]?=some g→timeQ nd t.x g.stop=false) (hfo:FoundOk c w' (nd.kids.headD 0) t.x.place f)
  (hat:WaysAt c.fb w' o') (hp:o'.part=o.part) (hC:∀ y,o'.C y ↔ o.C y∨y=t.x) (htr':o'.tr=pre++[{ t with tried:=j },fresh tl (timeN nd t.x f.stop)]) (hfd:o'.found=o.found) (hmp:o'.mp=o.mp)
  (htp:∀ p l,TrailP w p l→TrailP w' p l) (hO:MonoT O O') (htl:∀ l le,TrailP w' t.tl l→TrailP w' f.tl le→∃ l',TrailP w' tl l'∧SameE l' (le++l)):Next c w O o p0 o' w' O' []:=by
 have hk:=h.tk t (by rw[htr];simp);obtain⟨hb,hbf⟩:=hk.bd hT;have hjl:j - 1<o1.found.length:=(List.getElem?_eq_some_iff.mp hf).1
 have hsum:(([{ t with tried:=j },fresh tl (timeN nd t.x f.stop)]:List Trk).map wt).sum=2 * (65 - j)+2:=by
  simp only[List.map_cons,List.map_nil,List.sum_cons,List.sum_nil];rw[show wt (fresh tl (timeN nd t.x f.stop))=1 from rfl];unfold wt;dsimp only;rw[if_neg (by omega)];omega
 have hlt:meas c o'<meas c o:=by
  rcases hc with ⟨h0,hnc⟩ | h0
  ·exact z4g hC (fun y hy=>(h.cb y hy).1) hb hnc htr htr' (by omega)
  ·refine z6d hC (h.tk2 t (by rw[htr];simp) h0).1 htr htr' ?_
   rw[hsum];unfold wt;rw[if_neg (by omega)];omega
 have hdone:∀ y,DoneP o y→DoneP o' y:=fun y hy=>hy.of htr htr' hC
 refine⟨h.step htr hat hp hC ⟨hb,hbf⟩ htr' hfd hmp htp hO (fun t' ht'=>?_) (fun t' ht' h1=>?_) (fun nd' hn'=>?_) (fun _ h2=>by omega) (fun _ q=>by cases q) (by simpa using h.nodup) (Nat.le_of_lt hlt),hlt⟩
 ·simp only[List.mem_cons,List.not_mem_nil,or_false] at ht'
  rcases ht' with rfl | rfl
  ·exact(hk.tr _).up htp
  ·obtain⟨⟨l,hl1,hl2⟩,hm,_⟩:=hk
   obtain⟨hfl,le,e,kd',q1,q2,q3,q4⟩:=hfo;rw[hkd] at q2;injection q2 with q2;subst q2
   obtain⟨l',g1,g2⟩:=htl l le (htp _ _ hl1) q1;refine⟨⟨l',g1,y8f hT hl2 hn hd hkd q3 hfq (g2.trans (q4.app (SameE.refl l)))⟩,?_,hfl⟩;show MvOk c.T o.part (timeN nd t.x f.stop);unfold timeN MvOk;dsimp only
   split
   ·exact .inl rfl
   ·exact hm
 ·simp only[List.mem_cons,List.not_mem_nil,or_false] at ht'
  rcases ht' with rfl | rfl
  ·refine⟨rfl,(hC _).2 (.inr rfl),hj64,by dsimp only;omega,fun h2=>by dsimp only at h2;omega,fun _=>⟨nd,hn,o1,ho1,by dsimp only;omega,fun i g hi hg hgq=>?_⟩⟩
   dsimp only at hi hgq ⊢;by_cases hlt1:i<t.tried
   ·obtain⟨_,_,_,_,ff⟩:=h.tk2 t (by rw[htr];simp) (by omega)
    obtain⟨nd2,r1,r2⟩:=ff hd;rw[hn] at r1;injection r1 with r1;subst r1
    obtain⟨o2,s1,s2,s3⟩:=r2.keep hdone hO;rw[ho1] at s1;injection s1 with s1;subst s1
    exact s3 i g hlt1 hg hgq
   ·by_cases hej:i=j - 1
    ·subst hej
     rw[hf] at hg;injection hg with hg;subst hg
     refine .inr ⟨fresh tl (timeN nd t.x f.stop),?_,rfl,rfl⟩;rw[htr'];simp
    ·have:=hsk i g (by omega) (by omega) hg
     rw[this] at hgq;cases hgq
  ·exact absurd h1 (by show ¬ 0<0;omega)
 ·rw[hn] at hn';injection hn' with hn';subst hn'
  refine⟨fun h0=>by omega,fun h0=>by omega,fun _=> .inl ⟨{ t with tried:=j },?_,rfl,by dsimp only;omega⟩⟩;rw[htr'];simp
theorem y99 (hT:TabF c.T) (h:OInv c w O o p0 []) (htr:o.tr=pre++[t]) (hc:(t.tried=0∧¬ o.C t.x)∨0<t.tried) (hd:2≤t.x.done) {nd:Nd} (hn:c.T[t.x.part]?=some nd)
  (hall:∀ kd k,c.T[nd.kids.headD 0]?=some kd→Way c.bs true true kd.r t.x.place k→k≤c.lim→timeQ nd t.x k=true→∃ (i:Nat) (f:Way1) (o1:WO),O' (nd.kids.headD 0) t.x.place=some o1∧i<t.tried∧o1.found[i]?=some f∧f.stop=k)
  (hat:WaysAt c.fb w' o') (hp:o'.part=o.part) (hC:∀ y,o'.C y ↔ o.C y∨y=t.x) (htr':o'.tr=pre++(if nd.r.lo≤((t.x.done - 2:Nat):Int) then [fresh t.tl { t.x with done:=1 }] else [])) (hfd:o'.found=o.found) (hmp:o'.mp=o.mp)
  (htp:∀ p l,TrailP w p l→TrailP w' p l) (hO:MonoT O O'):Next c w O o p0 o' w' O' []:=by
 have hk:=h.tk t (by rw[htr];simp);obtain⟨hb,hbf⟩:=hk.bd hT
 have hsum:((if nd.r.lo≤((t.x.done - 2:Nat):Int) then [fresh t.tl { t.x with done:=1 }] else []).map wt).sum≤1:=by
  split
  ·simp[fresh,wt]
  ·simp
 have hlt:meas c o'<meas c o:=by
  rcases hc with ⟨h0,hnc⟩ | h0
  ·exact z4g hC (fun y hy=>(h.cb y hy).1) hb hnc htr htr' (by omega)
  ·obtain⟨r1,r2,_⟩:=h.tk2 t (by rw[htr];simp) h0
   refine z6d hC r1 htr htr' (Nat.lt_of_le_of_lt hsum ?_);unfold wt;rw[if_neg (by omega)];omega
 have hdone:∀ y,DoneP o y→DoneP o' y:=fun y hy=>hy.of htr htr' hC
 refine⟨h.step htr hat hp hC ⟨hb,hbf⟩ htr' hfd hmp htp hO (fun t' ht'=>?_) (fun t' ht' h1=>?_) (fun nd' hn'=>?_) (fun _ h2=>by omega) (fun _ q=>by cases q) (by simpa using h.nodup) (Nat.le_of_lt hlt),hlt⟩
 ·split at ht'
  ·rename_i hlo
   rw[List.mem_singleton] at ht';subst ht';obtain⟨⟨l,hl1,hl2⟩,hm,hpl⟩:=hk;exact⟨⟨l,htp _ _ hl1,y82 hT hl2 hn hd hlo⟩,hm,hpl⟩
  ·cases ht'
 ·split at ht'
  ·rw[List.mem_singleton] at ht';subst ht'
   exact absurd h1 (by show ¬ 0<0;omega)
  ·cases ht'
 ·rw[hn] at hn';injection hn' with hn';subst hn'
  refine⟨fun h0=>by omega,fun h0=>by omega,fun _=> .inr ⟨fun kd k h1 h2 h3 h4=>?_,fun hlo=>?_⟩⟩
  ·obtain⟨i,f,o1,g1,g2,g3,g4⟩:=hall kd k h1 h2 h3 h4
   obtain⟨_,_,_,_,ff⟩:=h.tk2 t (by rw[htr];simp) (by omega);obtain⟨nd2,r1,r2⟩:=ff hd;rw[hn] at r1;injection r1 with r1;subst r1
   obtain⟨o2,s1,s2,s3⟩:=r2.keep hdone hO;rw[g1] at s1;injection s1 with s1;subst s1
   have:=s3 i f g2 g3 (by rw[g4];exact h4);rw[g4] at this;exact this
  ·refine .inr ⟨fresh t.tl { t.x with done:=1 },?_,rfl,rfl⟩
   rw[htr',if_pos hlo];simp
end
section
structure CxOk (c:Cx):Prop where
 T:TabF c.T
 lim:c.lim≤c.s.size
 size:c.s.size≤60
 len:c.T.length≤1000
 num:∀ (p:Nat) (nd:Nd),c.T[p]?=some nd→nd.r.kind=7→0≤nd.r.num∧nd.r.num<10
 kids:∀ (p:Nat) (nd:Nd),c.T[p]?=some nd→nd.kids.length≤64
theorem CxOk.bs {c:Cx} (h:CxOk c):c.lim≤c.bs.length:=by unfold Cx.bs;rw[z0o];exact h.lim
def geS (p:Nat):Nat→Nat→Prop:=fun q _=>p≤q
def butS (p i:Nat):Nat→Nat→Prop:=fun q j=>p≤q∧¬ (q=p∧j=i)
structure FInv (c:Cx) (S:Nat→Nat→Prop) (w:World) (O:Tab):Prop where
 fin:FinAt c w
 known:∃ f,MapIs 80 w c.km f∧∀ p i:Nat,f (.agg #[.int .i64 (p:Nat),.int .i64 (i:Nat)])=(O p i).map fun o=> .pointer (some ⟨o.a,0,none⟩)
 at_:∀ p i o,O p i=some o→o.part=p∧WaysAt c.fb w o
 obj:∀ p i o,O p i=some o→S p i→OInv c w O o i []
 dis:∀ p i o p' i' o',O p i=some o→O p' i'=some o'→(p,i)≠(p',i')→∀ b,o.own b→¬ o'.own b
structure Post (c:Cx) (P:Nat) (w:World) (O:Tab) (w':World) (O':Tab):Prop where
 fr:Frm (fun b=>b=c.km∨∃ q j o,P≤q∧O q j=some o∧o.own b) w w'
 mono:MonoT O O'
 low:∀ q j,q<P→O' q j=O q j
 own:∀ q j o',O' q j=some o'→∀ b,o'.own b→(∃ o,O q j=some o∧o.own b)∨w.heap.size≤b
theorem Post.trans {c:Cx} {P:Nat} {w w' w2:World} {O O' O2:Tab} (h:Post c P w O w' O') (k:Post c P w' O' w2 O2):Post c P w O w2 O2:=by
 refine⟨h.fr.trans k.fr fun x hx q=>?_,h.mono.trans k.mono,fun q j hq=>(k.low q j hq).trans (h.low q j hq),fun q j o2 ho b hb=>?_⟩
 ·rcases q with q | ⟨q,j,o',h1,h2,h3⟩
  ·exact .inl q
  ·rcases h.own q j o' h2 x h3 with ⟨o,h4,h5⟩ | h4
   ·exact .inr ⟨q,j,o,h1,h4,h5⟩
   ·omega
 ·rcases k.own q j o2 ho b hb with ⟨o1,h1,h2⟩ | h1
  ·exact h.own q j o1 h1 b h2
  ·exact .inr (Nat.le_trans h.fr.size h1)
theorem Post.down {c:Cx} {P P':Nat} {w w':World} {O O':Tab} (h:Post c P w O w' O') (hp:P'≤P):Post c P' w O w' O':=
 ⟨h.fr.mono fun _ _ q=>q.imp id fun ⟨q,j,o,h1,h2⟩=>⟨q,j,o,by omega,h2⟩,h.mono,fun q j hq=>h.low q j (by omega),h.own⟩
theorem Post.of_below {c:Cx} {P:Nat} {w w':World} {O:Tab} (h:Below w.heap.size w w'):Post c P w O w' O:=
 ⟨.of_below h,MonoT.refl O,fun _ _ _=>rfl,fun _ _ o ho _ hb=> .inl ⟨o,ho,hb⟩⟩
section
variable {c:Cx} {S:Nat→Nat→Prop} {w w':World} {O O':Tab}
theorem FInv.up (h:FInv c S w O) {S':Nat→Nat→Prop} (hq:∀ q j,S' q j→S q j):FInv c S' w O:=⟨h.fin,h.known,h.at_,fun p i o ho hp=>h.obj p i o ho (hq _ _ hp),h.dis⟩
theorem FInv.noMark (h:FInv c S w O) (Q:Nat):NoMark (fun b=>b=c.km∨∃ q j o,Q≤q∧O q j=some o∧o.own b) w:=by
 rintro b (rfl | ⟨q,j,o,_,ho,hb⟩) X hX
 ·obtain⟨f,⟨es,clock,h1,_⟩,_⟩:=h.known
  rw[h1] at hX;simp at hX
 ·exact(h.at_ q j o ho).2.noMark b hb X hX
theorem FInv.trails (h:FInv c S w O) {Q:Nat} (hp:Post c Q w O w' O'):∀ p l,TrailP w p l→TrailP w' p l:=fun _ _ ht=>ht.keep hp.fr (h.noMark Q)
theorem FInv.still (h:FInv c S w O) {Q:Nat} (hp:Post c Q w O w' O') {p i:Nat} {o:WO} (ho:O p i=some o) (hpq:p<Q):∀ b,o.own b→w'.heap[b]?=w.heap[b]?:=fun b hb=>by
 obtain⟨h1,h2,_⟩:=(h.at_ p i o ho).2.kind hb;refine hp.fr.block b h2 ?_;rintro(rfl | ⟨q,j,o',g1,g2,g3⟩)
 ·have:=h.fin.km;omega
 ·exact h.dis p i o q j o' ho g2 (fun e=>by injection e;omega) b hb g3
theorem FInv.lift (h:FInv c S w O) {Q:Nat} (h':FInv c (geS Q) w' O') (hp:Post c Q w O w' O'):FInv c S w' O':=by
 refine⟨h'.fin,h'.known,h'.at_,fun p i o ho hpp=>?_,h'.dis⟩;by_cases hpq:Q≤p
 ·exact h'.obj p i o ho hpq
 ·rw[hp.low p i (by omega)] at ho
  exact(h.obj p i o ho hpp).keep ((h.at_ p i o ho).2.keep (h.still hp ho (by omega))) (h.trails hp) hp.mono
theorem FInv.next (h:FInv c S w O) (hb:Below w.heap.size w w'):FInv c S w' O:=by
 have hk:c.km<w.heap.size:=by have:=(Array.getElem?_eq_some_iff.mp h.fin.box).1;have:=h.fin.km;omega
 refine⟨h.fin.next hb,?_,fun p i o ho=>⟨(h.at_ p i o ho).1,(h.at_ p i o ho).2.next hb⟩,fun p i o ho hpp=>(h.obj p i o ho hpp).keep ((h.at_ p i o ho).2.next hb) (fun p l ht=>ht.keep (S:=fun _=>False) (.of_below hb) fun _ q=>q.elim) (MonoT.refl O),h.dis⟩;obtain⟨f,h1,h2⟩:=h.known;exact⟨f,h1.keep (hb.block _ hk),h2⟩
def updO (O:Tab) (p i:Nat) (o':WO):Tab:=fun q j=>if q=p∧j=i then some o' else O q j
theorem z0s (O:Tab) (p i:Nat) (o':WO):updO O p i o' p i=some o':=by unfold updO;simp
theorem z02 (O:Tab) {p i q j:Nat} (o':WO) (h:(q,j)≠(p,i)):updO O p i o' q j=O q j:=by
 unfold updO;rw[if_neg];rintro⟨rfl,rfl⟩;exact h rfl
theorem y56 {O:Tab} {p i:Nat} {o o':WO} (ho:O p i=some o) (ha:o'.a=o.a) (hf:∃ more,o'.found=o.found++more):MonoT O (updO O p i o'):=fun q j o1 h1=>by
 by_cases hq:(q,j)=(p,i)
 ·injection hq with e1 e2;subst e1 e2
  rw[ho] at h1;injection h1 with h1;subst h1
  exact⟨o',z0s _ _ _ _,ha,hf⟩
 ·exact⟨o1,by rw[z02 _ _ hq];exact h1,rfl,[],by simp⟩
theorem FInv.upd (h:FInv c S w O) {p i:Nat} {o o':WO} (ho:O p i=some o) (hpP:¬ S p i) (hm:Mt c.fb o w o' w') (hf:∃ more,o'.found=o.found++more):FInv c S w' (updO O p i o')∧Post c p w O w' (updO O p i o'):=by
 obtain⟨hop,hoa⟩:=h.at_ p i o ho
 have hmono:=y56 ho hm.a hf;have hfrk:∀ b,b<w.heap.size→¬ o.own b→w'.heap[b]?=w.heap[b]?:=hm.fr.block;have hkm:c.km<w.heap.size:=by have:=(Array.getElem?_eq_some_iff.mp h.fin.box).1;have:=h.fin.km;omega
 have hnk:¬ o.own c.km:=fun hb=>by have:=(hoa.kind hb).1;have:=h.fin.km;omega
 have still:∀ q j o1,O q j=some o1→(q,j)≠(p,i)→∀ b,o1.own b→w'.heap[b]?=w.heap[b]?:=fun q j o1 h1 hne b hb=>
  hfrk b (((h.at_ q j o1 h1).2.kind hb).2.1) fun hb'=>h.dis q j o1 p i o h1 ho hne b hb hb'
 have htp:∀ p l,TrailP w p l→TrailP w' p l:=fun p l ht=>ht.keep hm.fr hoa.noMark
 refine⟨⟨h.fin.mt hoa hm,?_,fun q j o1 h1=>?_,fun q j o1 h1 hq=>?_,fun q j o1 q' j' o2 h1 h2 hne b hb hb'=>?_⟩,⟨hm.fr.mono fun b _ hb=> .inr ⟨p,i,o,Nat.le_refl _,ho,hb⟩,hmono,fun q j hq=>z02 _ _ fun e=>by injection e;omega,fun q j o1 h1 b hb=>?_⟩⟩
 ·obtain⟨f,h1,h2⟩:=h.known
  refine⟨f,h1.keep (hfrk _ hkm hnk),fun q j=>?_⟩;rw[h2];by_cases hq:(q,j)=(p,i)
  ·injection hq with e1 e2;subst e1 e2
   rw[z0s,ho];simp[hm.a]
  ·rw[z02 _ _ hq]
 ·by_cases hq:(q,j)=(p,i)
  ·injection hq with e1 e2;subst e1 e2
   rw[z0s] at h1;injection h1 with h1;subst h1
   exact⟨hm.part.trans hop,hm.at_⟩
  ·rw[z02 _ _ hq] at h1
   exact⟨(h.at_ q j o1 h1).1,(h.at_ q j o1 h1).2.keep (still q j o1 h1 hq)⟩
 ·have hne:(q,j)≠(p,i):=fun e=>by injection e with e1 e2;subst e1 e2;exact hpP hq
  rw[z02 _ _ hne] at h1;exact(h.obj q j o1 h1 hq).keep ((h.at_ q j o1 h1).2.keep (still q j o1 h1 hne)) htp hmono
 ·have hown:∀ q j o1 b,updO O p i o' q j=some o1→o1.own b→(∃ o0,O q j=some o0∧o0.own b)∨(w.heap.size≤b∧(q,j)=(p,i)):=fun q j o1 b h1 hb=>by
   by_cases hq:(q,j)=(p,i)
   ·injection hq with e1 e2;subst e1 e2
    rw[z0s] at h1;injection h1 with h1;subst h1
    rcases hm.own b hb with h3 | h3
    ·exact .inl ⟨o,ho,h3⟩
    ·exact .inr ⟨h3,rfl⟩
   ·rw[z02 _ _ hq] at h1
    exact .inl ⟨o1,h1,hb⟩
  rcases hown q j o1 b h1 hb with ⟨a1,g1,g2⟩ | ⟨g1,g2⟩ <;> rcases hown q' j' o2 b h2 hb' with ⟨a2,k1,k2⟩ | ⟨k1,k2⟩
  ·exact h.dis q j a1 q' j' a2 g1 k1 hne b g2 k2
  ·have:=((h.at_ q j a1 g1).2.kind g2).2.1;omega
  ·have:=((h.at_ q' j' a2 k1).2.kind k2).2.1;omega
  ·exact hne (g2.trans k2.symm)
 ·by_cases hq:(q,j)=(p,i)
  ·injection hq with e1 e2;subst e1 e2
   rw[z0s] at h1;injection h1 with h1;subst h1
   rcases hm.own b hb with h3 | h3
   ·exact .inl ⟨o,ho,h3⟩
   ·exact .inr h3
  ·rw[z02 _ _ hq] at h1
   exact .inl ⟨o1,h1,hb⟩
theorem FInv.whole {p i:Nat} (h:FInv c (butS p i) w O) (hs:∀ o,O p i=some o→OInv c w O o i []):FInv c (geS p) w O:=
 ⟨h.fin,h.known,h.at_,fun q j o ho hq=>by
  by_cases e:q=p∧j=i
  ·obtain⟨rfl,rfl⟩:=e;exact hs o ho
  ·exact h.obj q j o ho ⟨hq,e⟩,h.dis⟩
end
end
section
open Go.ChangeMaps (setBlock heap_setBlock_same heap_setBlock_other)
set_option linter.unusedSimpArgs false
theorem FInv.add {c:Cx} {q pl:Nat} {w w2:World} {O:Tab} {o1:WO} (h:FInv c (geS q) w O) (hn:O q pl=none) (hfr:Frm (fun b=>b=c.km) w w2) (hat:WaysAt c.fb w2 o1) (hp:o1.part=q) (hown:∀ b,o1.own b→w.heap.size≤b) (hinv:OInv c w2 (updO O q pl o1) o1 pl [])
  (hk:∃ f,(∀ p i:Nat,f (.agg #[.int .i64 (p:Nat),.int .i64 (i:Nat)])=(O p i).map fun o=> .pointer (some ⟨o.a,0,none⟩))∧MapIs 80 w2 c.km (updF f (.agg #[.int .i64 (q:Nat),.int .i64 (pl:Nat)]) (.pointer (some ⟨o1.a,0,none⟩)))):FInv c (geS q) w2 (updO O q pl o1)∧Post c q w O w2 (updO O q pl o1):=by
 have hkm:c.km<w.heap.size:=by have:=(Array.getElem?_eq_some_iff.mp h.fin.box).1;have:=h.fin.km;omega
 have still:∀ p i o,O p i=some o→∀ b,o.own b→w2.heap[b]?=w.heap[b]?:=fun p i o ho b hb=>by
  obtain⟨g1,g2,_⟩:=(h.at_ p i o ho).2.kind hb;exact hfr.block b g2 fun e=>by have:=h.fin.km;omega
 have hnm:NoMark (fun b=>b=c.km) w:=fun b hb X hX=>by
  subst hb;obtain⟨f,⟨es,clock,g1,_⟩,_⟩:=h.known;rw[g1] at hX;simp at hX
 have hmono:MonoT O (updO O q pl o1):=fun p i o ho=>⟨o,by rw[z02 _ _ (fun e=>by injection e with e1 e2;subst e1 e2;rw[hn] at ho;cases ho)];exact ho,rfl,[],by simp⟩
 have hne:∀ {p i o},O p i=some o→(p,i)≠(q,pl):=fun {p i o} ho e=>by injection e with e1 e2;subst e1 e2;rw[hn] at ho;cases ho
 have cases2:∀ {p i o},updO O q pl o1 p i=some o→((p,i)=(q,pl)∧o=o1)∨((p,i)≠(q,pl)∧O p i=some o):=fun {p i o} ho=>by
  by_cases e:(p,i)=(q,pl)
  ·injection e with e1 e2;subst e1 e2
   rw[z0s] at ho;injection ho with ho
   exact .inl ⟨rfl,ho.symm⟩
  ·rw[z02 _ _ e] at ho;exact .inr ⟨e,ho⟩
 refine⟨⟨h.fin.keep hfr fun b hb e=>hb.2 e,?_,fun p i o ho=>?_,fun p i o ho hpq=>?_,fun p i o p' i' o' ho ho' hpp b hb hb'=>?_⟩,⟨hfr.mono fun _ _ e=> .inl e,hmono,fun p i hp'=>z02 _ _ fun e=>by injection e;omega,fun p i o ho b hb=>?_⟩⟩
 ·obtain⟨f,g2,g1⟩:=hk
  refine⟨_,g1,fun p i=>?_⟩;by_cases e:(p,i)=(q,pl)
  ·injection e with e1 e2;subst e1 e2
   rw[z3z,z0s];rfl
  ·rw[z17,z02 _ _ e,g2]
   intro e2;simp at e2;exact e (by rw[show p=q by omega,show i=pl by omega])
 ·rcases cases2 ho with ⟨e,rfl⟩ | ⟨_,ho⟩
  ·injection e with e1 e2;subst e1 e2;exact⟨hp,hat⟩
  ·exact⟨(h.at_ p i o ho).1,(h.at_ p i o ho).2.keep (still p i o ho)⟩
 ·rcases cases2 ho with ⟨e,rfl⟩ | ⟨_,ho⟩
  ·injection e with e1 e2;subst e1 e2;exact hinv
  ·exact(h.obj p i o ho hpq).keep ((h.at_ p i o ho).2.keep (still p i o ho)) (fun p l ht=>ht.keep hfr hnm) hmono
 ·rcases cases2 ho with ⟨e,k⟩ | ⟨_,g⟩ <;> rcases cases2 ho' with ⟨e',k'⟩ | ⟨_,g'⟩
  ·exact hpp (e.trans e'.symm)
  ·have:=hown b (k ▸ hb);have:=((h.at_ p' i' o' g').2.kind hb').2.1;omega
  ·have:=hown b (k' ▸ hb');have:=((h.at_ p i o g).2.kind hb).2.1;omega
  ·exact h.dis p i o p' i' o' g g' hpp b hb hb'
 ·rcases cases2 ho with ⟨_,rfl⟩ | ⟨_,ho⟩
  ·exact .inr (hown b hb)
  ·exact .inl ⟨o,ho,hb⟩
theorem x0n (w:World):(zeroValue 52).run Tryd.prog w= .ok (.pointer none) w:=by kernel_rfl
def newW (q a m:Nat):WO:=⟨a,q,.slice none 0 0,[],some m,fun _=>False,.slice none 0 0,[]⟩
theorem x3e {fb q m:Nat} {U:World} (hm:fb<m) (hmm:U.heap[m]?=some (.map #[] 0)) {a:Nat} (ha:fb<a) (hx:U.heap[a]?=some (.cells #[.pointer (some ⟨fb,0,none⟩),.int .i64 (q:Nat),.slice none 0 0,.map (some m),.slice none 0 0] 86)):WaysAt fb U (newW q a m):=
 ⟨hx,ha,World.ownsRow_nil _ _ _ _,World.ownsRow_nil _ _ _ _,fun m' e=>by
  injection e with e;subst e
  refine⟨hm,fun _=>none,⟨#[],0,hmm,fun e he=>(by simp at he),by simp,fun e he=>(by simp at he),fun k v h=>(by cases h)⟩,fun k v h=>(by cases h),fun x _=>⟨fun h=>h.elim,fun ⟨n,h,_⟩=>(by cases h)⟩⟩⟩
theorem x20 {c:Cx} {q pl:Nat} {w:World} {O:Tab} {o1:WO} (hT:∃ nd,c.T[q]?=some nd) (hpl:pl≤c.lim) (hat:WaysAt c.fb w o1) (hp:o1.part=q) (htr:o1.tr=[fresh none ⟨q,0,pl, -1,0⟩]) (hC:∀ x,¬ o1.C x) (hf:o1.found=[]) (hm:∃ m,o1.mp=some m):OInv c w O o1 pl []:=by
 subst hp;obtain⟨nd,hn⟩:=hT;refine⟨⟨nd,hn⟩,hpl,hat,fun t ht=>?_,fun t ht h0=>?_,fun x hx=>(hC x hx).elim,fun f hf'=>(by rw[hf] at hf';cases hf'),(by rw[hf];simp),fun _=>hm,.inr ⟨fresh none ⟨o1.part,0,pl, -1,0⟩,(by rw[htr];simp),rfl,rfl⟩,fun x _ hx=>(hC x hx).elim,fun x hx=>(hC x hx).elim,?_⟩
 ·rw[htr,List.mem_singleton] at ht;subst ht
  exact⟨⟨[],.nil,y5t hn⟩,.inl rfl,hpl⟩
 ·rw[htr,List.mem_singleton] at ht;subst ht
  exact absurd h0 (by show ¬ 0<0;omega)
 ·unfold meas
  rw[htr];have:=y5u (fun z=>∃ x,o1.C x∧codeS c.T.length c.lim x=z) (topS c.T.length c.lim);have h1:leftS c.T.length c.lim o1.C≤topS c.T.length c.lim:=this;have h2:([fresh none ⟨o1.part,0,pl, -1,0⟩].map wt).sum=1:=rfl;rw[h2];have:=Nat.mul_le_mul_right 138 h1;omega
theorem y3q {c:Cx} {q pl:Nat} {w:World} {O:Tab} {o:WO} (hq:q≤1000) (hpl:pl≤1000) (h:FInv c (geS q) w O) (ho:O q pl=some o):
  Calls Tryd.prog 16 #[.pointer (some ⟨c.fb,0,none⟩),.int .i64 (q:Nat),.int .i64 (pl:Nat)] w fun e w'=>e= .returned (.pointer (some ⟨o.a,0,none⟩))∧Hid (FInv c (geS q) w' O∧Post c q w O w' O):=by
 obtain⟨f,h1,h2⟩:=h.known;obtain⟨kl,hkl⟩:=key80 (a:=(q:Nat)) (b:=(pl:Nat)) (wf64 (by omega) (by omega)) (wf64 (by omega) (by omega));have hfv:f (.agg #[.int .i64 (q:Nat),.int .i64 (pl:Nat)])=some (.pointer (some ⟨o.a,0,none⟩)):=by rw[h2,ho];rfl
 have d3:w.cell? ⟨c.fb,3,none⟩=some (.map (some c.km)):=(z0c h.fin.box 3).trans rfl;have hfb:c.fb<w.heap.size:=(Array.getElem?_eq_some_iff.mp h.fin.box).1;have hkm:c.km<w.heap.size:=by have:=h.fin.km;omega
 obtain⟨va,hva⟩:∃ va,va=o.a:=⟨_,rfl⟩;rw[←hva] at hfv ⊢;obtain⟨W,hW⟩:∃ W,W=w.alloc (.cells #[.int .i64 (q:Nat),.int .i64 (pl:Nat)] 80):=⟨_,rfl⟩;have hb:Below w.heap.size w W:=by rw[hW];exact z0b _ _
 have hx:W.heap[w.heap.size]?=some (.cells #[.int .i64 (q:Nat),.int .i64 (pl:Nat)] 80):=by rw[hW];exact heap_alloc_new w _
 have hlk:∀ n,(Instr.lookup 76 (.map (some c.km)) (.agg #[.int .i64 (q:Nat),.int .i64 (pl:Nat)]) true).run Tryd.prog (W.drewN n)= .ok (.tuple #[.pointer (some ⟨va,0,none⟩),.bool true]) (W.drewN n):=fun n=>by
  have:=MapIs.look (w:=W.drewN n) (k:=80) (e:=52) (t:=76) (h1.keep (hb.block c.km hkm)) law80 Tryd.underlying76 (x0n _) hkl true;rw[hfv] at this;exact this
 have hl1:=hlk;have dW:W.cell? ⟨c.fb,3,none⟩=some (.map (some c.km)):=(hb.cell (p:=⟨c.fb,3,none⟩) hfb).trans d3;have x0:W.cell? ⟨w.heap.size,0,none⟩=some (.int .i64 (q:Nat)):=(z0c hx 0).trans rfl;have x1:W.cell? ⟨w.heap.size,1,none⟩=some (.int .i64 (pl:Nat)):=(z0c hx 1).trans rfl;have HF:Hid (∀ n,FInv c (geS q) (W.drewN n) O∧Post c q w O (W.drewN n) O):=Lib.hid fun n=>⟨h.next (Below.drews hb n),.of_below (Below.drews hb n)⟩
 have HW:=Lib.hid hW;clear h h1 h2 ho hkl hfv hva hx hb hq hpl d3 hlk hW;go_enter Tryd.func16,Tryd.ntmps16
 go_upto_region 2 with (fail)
 rw[←HW.out];go_quiet (fail);go_wp2;go_ret;exact⟨rfl,Lib.hid (HF.out _)⟩
theorem y3a {c:Cx} {q pl:Nat} {w:World} {O:Tab} (hq:q≤1000) (hpl:pl≤1000) (h:FInv c (geS q) w O) (ho:O q pl=none) (hT:∃ nd,c.T[q]?=some nd) (hpl2:pl≤c.lim):
  Calls Tryd.prog 16 #[.pointer (some ⟨c.fb,0,none⟩),.int .i64 (q:Nat),.int .i64 (pl:Nat)] w fun e w'=>e= .returned (.pointer (some ⟨w.heap.size+2,0,none⟩))∧Hid (∃ o',o'.a=w.heap.size+2∧FInv c (geS q) w' (updO O q pl o')∧Post c q w O w' (updO O q pl o')):=by
 obtain⟨f,h1,h2⟩:=h.known;obtain⟨kl,hkl⟩:=key80 (a:=(q:Nat)) (b:=(pl:Nat)) (wf64 (by omega) (by omega)) (wf64 (by omega) (by omega));have hfv:f (.agg #[.int .i64 (q:Nat),.int .i64 (pl:Nat)])=none:=by rw[h2,ho];rfl
 have d3:w.cell? ⟨c.fb,3,none⟩=some (.map (some c.km)):=(z0c h.fin.box 3).trans rfl;have hfb:c.fb<w.heap.size:=(Array.getElem?_eq_some_iff.mp h.fin.box).1;have hkm:c.km<w.heap.size:=by have:=h.fin.km;omega
 obtain⟨W,hW⟩:∃ W,W=w.alloc (.cells #[.int .i64 (q:Nat),.int .i64 (pl:Nat)] 80):=⟨_,rfl⟩;have hb:Below w.heap.size w W:=by rw[hW];exact z0b _ _
 have hx:W.heap[w.heap.size]?=some (.cells #[.int .i64 (q:Nat),.int .i64 (pl:Nat)] 80):=by rw[hW];exact heap_alloc_new w _
 have hsz:W.heap.size=w.heap.size+1:=by rw[hW];simp
 have hlk:∀ n,(Instr.lookup 76 (.map (some c.km)) (.agg #[.int .i64 (q:Nat),.int .i64 (pl:Nat)]) true).run Tryd.prog (W.drewN n)= .ok (.tuple #[.pointer none,.bool false]) (W.drewN n):=fun n=>by
  have:=MapIs.look (w:=W.drewN n) (k:=80) (e:=52) (t:=76) (h1.keep (hb.block c.km hkm)) law80 Tryd.underlying76 (x0n _) hkl true;rw[hfv] at this;exact this
 have dW:W.cell? ⟨c.fb,3,none⟩=some (.map (some c.km)):=(hb.cell (p:=⟨c.fb,3,none⟩) hfb).trans d3;have x0:W.cell? ⟨w.heap.size,0,none⟩=some (.int .i64 (q:Nat)):=(z0c hx 0).trans rfl;have x1:W.cell? ⟨w.heap.size,1,none⟩=some (.int .i64 (pl:Nat)):=(z0c hx 1).trans rfl;have HW:=Lib.hid hW;have HBW:=Lib.hid hb
 have HCU:Hid (∀ (U:World),Below W.heap.size W U→U.heap[w.heap.size+1]?=some (.map #[] 0)→U.heap[w.heap.size+2]?=some (.cells #[.pointer (some ⟨c.fb,0,none⟩),.int .i64 (q:Nat),.slice none 0 0,.map (some (w.heap.size+1)),.slice none 0 0] 86)→
   Calls Tryd.prog 29 #[.pointer (some ⟨w.heap.size+2,0,none⟩),.agg #[.int .i64 (q:Nat),.int .i64 0,.int .i64 (pl:Nat),.int .i64 (-1),.int .i64 0,.int .i64 0,.pointer none]] U fun e w'=>e= .returned (.tuple #[])∧Hid (∃ o',o'.a=w.heap.size+2∧Below w.heap.size w w'∧w'.heap[w.heap.size]?=W.heap[w.heap.size]?∧
    WaysAt c.fb w' o'∧o'.part=q∧(∀ b,o'.own b→w.heap.size≤b)∧o'.tr=[fresh none ⟨q,0,pl, -1,0⟩]∧(∀ x,¬ o'.C x)∧o'.found=[]∧∃ m,o'.mp=some m)):=Lib.hid fun U hU hm ha=>by
  have hn:=x3e (fb:=c.fb) (q:=q) (m:=w.heap.size+1) (a:=w.heap.size+2) (by omega) hm (by omega) ha;refine(z01 (fb:=c.fb) (fresh none ⟨q,0,pl, -1,0⟩) hn (by show 0≤_;omega)).mono fun e w' hp=>⟨hp.1,Lib.hid ?_⟩
  obtain⟨v',hmt⟩:=hp.2.out;have hbU:Below w.heap.size w U:=hb.trans (hU.mono hb.size)
  have hown:∀ b,(newW q (w.heap.size+2) (w.heap.size+1)).own b→w.heap.size+1≤b:=fun b hb'=>by
   rcases hb' with rfl | hb' | hb' | hb'
   ·show w.heap.size+1≤w.heap.size+2;omega
   ·cases hb'
   ·cases hb'
   ·have:b=w.heap.size+1:=by injection hb' with hb';exact hb'.symm
    omega
  have hlU:W.heap.size≤U.heap.size:=hU.size;refine⟨_,hmt.a,hbU.trans (hmt.fr.below hbU.size fun b hb' hq'=>by have:=hown b hq';omega),?_,hmt.at_,hmt.part,fun b hb'=>?_,rfl,fun x hx=>hx,rfl,⟨_,rfl⟩⟩
  ·rw[hmt.fr.block w.heap.size (by omega) fun hq'=>by have:=hown _ hq';omega]
   exact hU.block _ (by omega)
  ·rcases hmt.own b hb' with h3 | h3
   ·have:=hown b h3;omega
   ·omega
 have HF:=Lib.hid h;have HT:=Lib.hid (And.intro hT (And.intro hpl2 ho));have HM:=Lib.hid (And.intro h1 (And.intro hkl h2));have hmm:=@run_makeMap Tryd.prog;have HZ:=Lib.hid hsz;clear h h1 h2 ho hkl hfv hx hb hq hpl d3 hT hpl2 hW;go_enter Tryd.func16,Tryd.ntmps16
 go_upto_region 2 with (fail)
 rw[←HW.out];go_quiet (fail);clear hlk
 go_upto_region 5 with (fail)
 obtain⟨U,hU⟩:∃ U,U=(((W.drewN nq).alloc (.map #[] 0)).alloc (.cells #[.pointer (some ⟨c.fb,0,none⟩),.int .i64 (q:Nat),.slice none 0 0,.map (some (w.heap.size+1)),.slice none 0 0] 86)):=⟨_,rfl⟩
 have HC:=Lib.hid (HCU.out U (by rw[hU];exact((Below.drews (Below.refl _ _) nq).alloc (Nat.le_refl _) _).alloc (by simp[World.drewN]) _) (by
  rw[hU];have e1:=heap_alloc_new (W.drewN nq) (.map #[] 0);have e2:(W.drewN nq).heap.size=w.heap.size+1:=HZ.out;rw[e2] at e1;exact(((z0b _ _).block _ (by simp[World.drewN];omega)).trans e1)) (by
  rw[hU];have e1:=heap_alloc_new ((W.drewN nq).alloc (.map #[] 0)) (.cells #[.pointer (some ⟨c.fb,0,none⟩),.int .i64 (q:Nat),.slice none 0 0,.map (some (w.heap.size+1)),.slice none 0 0] 86);rw[World.size_alloc,show (W.drewN nq).heap.size=w.heap.size+1 from HZ.out] at e1;exact e1))
 rw[←hU];rw[show w.heap.size+1+1=w.heap.size+2 from rfl];obtain⟨na,hna⟩:∃ na,na=w.heap.size+2:=⟨_,rfl⟩;rw[←hna] at HC ⊢;have hna2:=hna;have HNA2:=Lib.hid hna2;clear hU hna hmm hsz x0 x1 dW hna2
 go_upto_region 6 with (first | (go_at_call 29;((with_reducible refine(HC.out).mono ?_));rintro _ w3 ⟨rfl,HP⟩) | fail)
 have hna2:=HNA2.out;obtain⟨V,hV⟩:∃ V,V=w3.drew:=⟨_,rfl⟩;have hbV:Below w.heap.size w V:=by obtain⟨o',_,g,_⟩:=HP.out;rw[hV];exact g.drew
 have hsV:V.heap[w.heap.size]?=some (.cells #[.int .i64 (q:Nat),.int .i64 (pl:Nat)] 80):=by
  obtain⟨o',_,_,g,_⟩:=HP.out;rw[hV];exact g.trans (by rw[HW.out];exact heap_alloc_new w _)
 obtain⟨ob,hrun,hm2,hoth⟩:=MapIs.store (w:=V) (k:=80) (e:=52) (t:=76) (key:= .agg #[.int .i64 (q:Nat),.int .i64 (pl:Nat)]) (val:= .pointer (some ⟨na,0,none⟩)) (HM.out.1.keep (hbV.block c.km hkm)) law80 Tryd.underlying76 HM.out.2.1
 have HFin:Hid (∃ o',o'.a=w.heap.size+2∧FInv c (geS q) (setBlock V c.km ob) (updO O q pl o')∧Post c q w O (setBlock V c.km ob) (updO O q pl o')):=Lib.hid (by
  obtain⟨o',g1,g2,g3,g4,g5,g6,g7,g8,g9,g10⟩:=HP.out;have hfr:Frm (fun b=>b=c.km) w (setBlock V c.km ob):=⟨hbV.os,hbV.tape,hbV.output,by have:=hbV.size;simp[setBlock];omega,fun k hk hn=>(hoth k hn).trans (hbV.block k hk)⟩
  have hat:WaysAt c.fb (setBlock V c.km ob) o':=g4.keep fun b hb=>by
   have:=g6 b hb;rw[hoth b (by omega),hV];rfl
  have:=FInv.add (o1:=o') HF.out HT.out.2.2 hfr hat g5 g6 (x20 HT.out.1 HT.out.2.1 hat g5 g7 g8 g9 g10) ⟨f,HM.out.2.2,by rw[g1];exact hm2⟩;exact⟨o',g1.trans hna2,this⟩)
 have y3:w3.cell? ⟨c.fb,3,none⟩=some (.map (some c.km)):=by
  have:V.cell? ⟨c.fb,3,none⟩=some (.map (some c.km)):=(hbV.cell (p:=⟨c.fb,3,none⟩) hfb).trans ((z0c HF.out.fin.box 3).trans rfl);rw[hV] at this;exact this
 have z0:w3.cell? ⟨w.heap.size,0,none⟩=some (.int .i64 (q:Nat)):=by
  have:V.cell? ⟨w.heap.size,0,none⟩=some (.int .i64 (q:Nat)):=(z0c hsV 0).trans rfl;rw[hV] at this;exact this
 have z1:w3.cell? ⟨w.heap.size,1,none⟩=some (.int .i64 (pl:Nat)):=by
  have:V.cell? ⟨w.heap.size,1,none⟩=some (.int .i64 (pl:Nat)):=(z0c hsV 1).trans rfl;rw[hV] at this;exact this
 rw[hV] at hrun HFin;have HNA:=Lib.hid hna2;clear hV hbV hsV hm2 hoth hna2
 go_region
 all_goals go_wp2
 all_goals go_ret
 all_goals exact⟨by rw[←HNA.out];rfl,HFin⟩
theorem z74 {c:Cx} {q pl:Nat} {w:World} {O:Tab} (hq:q≤1000) (hpl:pl≤1000) (h:FInv c (geS q) w O) (hT:∃ nd,c.T[q]?=some nd) (hpl2:pl≤c.lim):
  Calls Tryd.prog 16 #[.pointer (some ⟨c.fb,0,none⟩),.int .i64 (q:Nat),.int .i64 (pl:Nat)] w fun e w'=>∃ va,e= .returned (.pointer (some ⟨va,0,none⟩))∧Hid (∃ O' o',o'.a=va∧FInv c (geS q) w' O'∧Post c q w O w' O'∧O' q pl=some o'):=by
 cases ho:O q pl with
 | none=>exact(y3a hq hpl h ho hT hpl2).mono fun e w' ⟨h1,h2⟩=>⟨_,h1,Lib.hid (by obtain⟨o',g1,g2,g3⟩:=h2.out;exact⟨_,o',g1,g2,g3,z0s _ _ _ _⟩)⟩
 | some o=>exact(y3q hq hpl h ho).mono fun e w' ⟨h1,h2⟩=>⟨_,h1,Lib.hid ⟨O,o,rfl,h2.out.1,h2.out.2,ho⟩⟩
end
section
set_option linter.unusedSimpArgs false
def NthOk (c:Cx) (p i n:Nat) (w:World) (O:Tab) (w':World) (st:Int) (u:Option Addr) (ok:Bool):Prop:=∃ O' o',O' p i=some o'∧FInv c (geS p) w' O'∧Post c p w O w' O'∧
 (ok=true→∃ f,o'.found[n]?=some f∧st=(f.stop:Nat)∧ .pointer u=pv f.tl)∧(ok=false→o'.tr=[]∧o'.found.length≤n∧st=0∧u=none)
def NthC (c:Cx) (p:Nat):Prop:=∀ (w:World) (O:Tab) (i:Nat) (o:WO) (n:Nat),FInv c (geS p) w O→O p i=some o→n≤o.found.length→
 Calls Tryd.prog 17 #[.pointer (some ⟨o.a,0,none⟩),.int .i64 (n:Nat)] w fun e w'=>∃ st u ok,e= .returned (.tuple #[.agg #[.int .i64 st,.pointer u],.bool ok])∧Hid (NthOk c p i n w O w' st u ok)
def NextOk (c:Cx) (p i:Nat) (o:WO) (w:World) (O:Tab) (w':World) (st:Int) (u:Option Addr) (ok:Bool):Prop:=∃ O' o',O' p i=some o'∧FInv c (butS p i) w' O'∧Post c p w O w' O'∧o'.found=o.found∧o'.a=o.a∧
 (ok=true→∃ f,st=(f.stop:Nat)∧ .pointer u=pv f.tl∧OInv c w' O' o' i [f])∧(ok=false→OInv c w' O' o' i []∧o'.tr=[]∧st=0∧u=none)
def NextC (c:Cx) (p:Nat):Prop:=∀ (w:World) (O:Tab) (i:Nat) (o:WO),FInv c (geS p) w O→O p i=some o→
 Calls Tryd.prog 30 #[.pointer (some ⟨o.a,0,none⟩)] w fun e w'=>∃ st u ok,e= .returned (.tuple #[.agg #[.int .i64 st,.pointer u],.bool ok])∧Hid (NextOk c p i o w O w' st u ok)
theorem y8y {fb:Nat} {w W w5:World} {o:WO} {f:Way1} (h:WaysAt fb w o) (hb:Below w.heap.size w W) (hs:w.heap.size≤W.heap.size) {g cap:Nat}
  (hown:w5.ownsRow (fb+1) 58 2 (.slice (some ⟨g,0,none⟩) (o.found.length+1) cap) (o.found.length+1) (o.found.flatMap wayC++wayC f)) (hg:W.grownBy w5 o.fv.ownBlock) (hat:o.fv.ownBlock=some g∨g=W.heap.size):
  Mt fb o w { o with fv:= .slice (some ⟨g,0,none⟩) (o.found.length+1) cap,found:=o.found++[f] } (w5.setCell ⟨o.a,4,none⟩ (.slice (some ⟨g,0,none⟩) (o.found.length+1) cap))∧w5.heap[o.a]?=w.heap[o.a]?:=by
 have ha:=h.kind (b:=o.a) (.inl rfl);have hW:∀ k,k<W.heap.size→o.fv.ownBlock≠some k→w5.heap[k]?=W.heap[k]?:=fun k hk hne=>hg.block k hk fun e=>hne e.symm
 have tlt:∀ k,o.fv.ownBlock=some k→k<w.heap.size:=fun k hk=>(h.kind (.inr (.inr (.inl hk)))).2.1
 have ap:=h.apart;have ea:w5.heap[o.a]?=w.heap[o.a]?:=(hW _ (by omega) ap.fa).trans (hb.block _ ha.2.1)
 have hga:g≠o.a:=fun e=>by
  rcases hat with q | q
  ·exact ap.fa (by rw[q,e])
  ·omega
 have hset:∀ k,k≠o.a→(w5.setCell ⟨o.a,4,none⟩ (.slice (some ⟨g,0,none⟩) (o.found.length+1) cap)).heap[k]?=w5.heap[k]?:=fun k hk=>Below.heap_setCell _ _ _ _ hk
 have keep:∀ k,k<w.heap.size→k≠o.a→o.fv.ownBlock≠some k→(w5.setCell ⟨o.a,4,none⟩ (.slice (some ⟨g,0,none⟩) (o.found.length+1) cap)).heap[k]?=w.heap[k]?:=fun k h1 h2 h3=>by
  rw[hset k h2,hW k (by omega) h3];exact hb.block k h1
 refine⟨⟨⟨?_,?_,?_,?_,fun k hk hn=>keep k hk (fun e=>hn (.inl e)) (fun e=>hn (.inr (.inr (.inl e))))⟩,⟨?_,h.gt,?_,?_,?_⟩,?_,rfl,rfl⟩,ea⟩
 ·exact hg.os.trans hb.os
 ·exact hg.tape.trans hb.tape
 ·exact hg.output.trans hb.output
 ·have:=hg.size;have:=hb.size;simp only[World.size_setCell];omega
 ·rw[heap_setCell_same _ _ _ _ _ _ (ea.trans h.box)];rfl
 ·exact rowK h.tr fun b hb=>keep b (h.kind (.inr (.inl hb))).2.1 (fun e=>ap.ta (by rw[hb,e])) (fun e=>ap.tf b hb e)
 ·rw[List.length_append,List.length_singleton,List.flatMap_append]
  simp only[List.flatMap_cons,List.flatMap_nil,List.append_nil]
  exact rowK hown fun b hb=>hset b (fun e=>hga (by have:g=b:=by simpa[Value.ownBlock] using hb
                                                   rw[this,e]))
 ·intro m hm
  obtain⟨q1,f,q2,q3⟩:=h.met m hm;exact⟨q1,f,q2.keep (keep m q2.lt (fun e=>ap.ma (by rw[hm,e])) (fun e=>ap.fm m e hm)),q3⟩
 ·rintro b (rfl | hb | hb | hb)
  ·exact .inl (.inl rfl)
  ·exact .inl (.inr (.inl hb))
  ·have:g=b:=by simpa[Value.ownBlock] using hb
   subst this
   rcases hat with q | q
   ·exact .inl (.inr (.inr (.inl q)))
   ·exact .inr (by omega)
  ·exact .inl (.inr (.inr (.inr hb)))
theorem OInv.note {c:Cx} {w w':World} {O O':Tab} {o:WO} {i:Nat} {f:Way1} {v:Value} (h:OInv c w O o i [f]) (hat:WaysAt c.fb w' { o with fv:=v,found:=o.found++[f] }) (htp:∀ p l,TrailP w p l→TrailP w' p l) (hO:MonoT O O'):
  OInv c w' O' { o with fv:=v,found:=o.found++[f] } i []:=by
 refine⟨h.nd,h.start,hat,fun t ht=>(h.tk t ht).up htp,fun t ht h0=>?_,h.cb,fun f' hf=>?_,by simpa using h.nodup,h.mp,h.init,fun x nd hx hn=>(h.spec x nd hx hn).keep (fun _ q=>q) (fun _ q _ _=>q) rfl,fun x hx h1 h3=>by simpa using h.fin x hx h1 h3,h.ms⟩
 ·obtain⟨a,b,d,e,ff⟩:=h.tk2 t ht h0
  exact⟨a,b,d,e,fun g=>by obtain⟨nd,q1,q2⟩:=ff g;exact⟨nd,q1,q2.keep (fun _ q=>q) hO⟩⟩
 ·obtain⟨⟨a,l,e,nd,b,d⟩,g⟩:=h.fd f' (by simpa using hf)
  exact⟨⟨a,l,e,nd,htp _ _ b,d⟩,g⟩
def fLen (a:Nat) (w:World):Nat:=match w.cell? ⟨a,4,none⟩ with
 | some (.slice _ n _)=>n
 | _=>0
theorem x3b:(Tryd.prog.info? 58).map (fun i=>(i.zero,i.size,i.bytes))=some (some (.agg #[.int .i64 0,.pointer none]),2,16):=by kernel_rfl
theorem y4e:∀ {l:List Way1} {n:Nat} {f:Way1},l[n]?=some f→(l.flatMap wayC)[n * 2]?=some (.int .i64 (f.stop:Nat))∧(l.flatMap wayC)[n * 2+1]?=some (pv f.tl)
 | [],n,f,h=>by simp at h
 | x::l,0,f,h=>by simp at h;subst h;exact⟨rfl,rfl⟩
 | x::l,n+1,f,h=>by
   rw[List.getElem?_cons_succ] at h;obtain⟨h1,h2⟩:=y4e h;rw[List.flatMap_cons]
   constructor
   ·rw[List.getElem?_append_right (by show 2≤_;omega),show (n+1) * 2 - (wayC x).length=n * 2 by show (n+1) * 2 - 2=n * 2;omega];exact h1
   ·rw[List.getElem?_append_right (by show 2≤_;omega),show (n+1) * 2+1 - (wayC x).length=n * 2+1 by show (n+1) * 2+1 - 2=n * 2+1;omega];exact h2
end
section
set_option linter.unusedSimpArgs false
abbrev ldFd:Op:= .load 84 (.tmp 26)
theorem y5w {a n cc:Nat} {A:Option Addr} {w:World} (h:w.cell? ⟨a,4,none⟩=some (.slice A n cc)):fLen a w=n:=by unfold fLen;rw[h]
theorem FInv.frm {c:Cx} {S:Nat→Nat→Prop} {w w':World} {O:Tab} {b:Nat} (h:FInv c S w O) (hf:Frm (fun k=>k=b) w w') (hb:c.fb<b) (ho:∀ q j o,O q j=some o→¬ o.own b) (hm:∀ X,w.heap[b]?≠some (.cells X 108)):FInv c S w' O:=by
 have hkm:c.km<w.heap.size:=by have:=(Array.getElem?_eq_some_iff.mp h.fin.box).1;have:=h.fin.km;omega
 have still:∀ q j o,O q j=some o→∀ k,o.own k→w'.heap[k]?=w.heap[k]?:=fun q j o h1 k hk=>hf.block k (((h.at_ q j o h1).2.kind hk).2.1) fun e=>ho q j o h1 (e ▸ hk)
 refine⟨h.fin.keep hf fun k hk e=>by have:=hk.1;omega,?_,fun q j o h1=>⟨(h.at_ q j o h1).1,(h.at_ q j o h1).2.keep (still q j o h1)⟩,fun q j o h1 hs=>(h.obj q j o h1 hs).keep ((h.at_ q j o h1).2.keep (still q j o h1)) (fun p l ht=>ht.keep hf fun k e X=>by subst e;exact hm X) (MonoT.refl O),h.dis⟩;obtain⟨f,h1,h2⟩:=h.known;exact⟨f,h1.keep (hf.block _ hkm fun e=>by have:=h.fin.km;omega),h2⟩
theorem Post.frm {c:Cx} {P b:Nat} {w w1 w':World} {O O':Tab} (h:Post c P w O w1 O') (hf:Frm (fun k=>k=b) w1 w') (hb:w.heap.size≤b):Post c P w O w' O':=
 ⟨h.fr.trans hf fun x hx e=>by omega,h.mono,h.low,h.own⟩
structure NthI (c:Cx) (p i n:Nat) (w:World) (O:Tab) (a:Nat) (wr:World) (O':Tab) (o':WO):Prop where
 ho:O' p i=some o'
 inv:FInv c (geS p) wr O'
 post:Post c p w O wr O'
 le:n≤o'.found.length
 a:o'.a=a
 res:wr.heap[w.heap.size]?=some (.cells #[.int .i64 0,.pointer none] 58)
 free:∀ q j o1,O' q j=some o1→¬ o1.own w.heap.size
theorem NthI.step {c:Cx} {p i n:Nat} {w wr w2:World} {O O1 O2:Tab} {a:Nat} {o1 o2:WO} (h:NthI c p i n w O a wr O1 o1) (hp:Post c p wr O1 w2 O2) (ho:O2 p i=some o2) (hi:FInv c (geS p) w2 O2) (hle:n≤o2.found.length) (ha:o2.a=a):NthI c p i n w O a w2 O2 o2:=by
 have hl:=(Array.getElem?_eq_some_iff.mp h.res).1;refine⟨ho,hi,h.post.trans hp,hle,ha,?_,fun q j o3 h3 hb=>?_⟩
 ·rw[hp.fr.block _ hl]
  ·exact h.res
  ·rintro(e | ⟨q,j,o3,_,g1,g2⟩)
   ·have:=h.inv.fin.km;have:=(Array.getElem?_eq_some_iff.mp h.inv.fin.box).1
    obtain⟨f,⟨es,clock,k1,_⟩,_⟩:=h.inv.known;rw[←e,h.res] at k1;simp at k1
   ·exact h.free q j o3 g1 g2
 ·rcases hp.own q j o3 h3 _ hb with ⟨o4,g1,g2⟩ | g1
  ·exact h.free q j o4 g1 g2
  ·omega
theorem x01 {c:Cx} (HX:CxOk c) {p:Nat} (HN:NextC c p):NthC c p:=by
 intro w O i o n h ho hn;obtain⟨a,ha⟩:∃ a,a=o.a:=⟨_,rfl⟩;rw[←ha];have HI0:Hid (∃ O' o',NthI c p i n w O a (w.alloc (.cells #[.int .i64 0,.pointer none] 58)) O' o'):=Lib.hid ⟨O,o,ho,h.next (z0b _ _),.of_below (z0b _ _),hn,ha.symm,heap_alloc_new w _,fun q j o1 h1 hb=>by have:=((h.at_ q j o1 h1).2.kind hb).2.1;omega⟩;have HNC:=Lib.hid HN;have HXO:=Lib.hid HX;have HFBW:Hid (c.fb<w.heap.size):=Lib.hid (Array.getElem?_eq_some_iff.mp h.fin.box).1;have HBW:=Lib.hid (And.intro (h.next (z0b w (.cells #[.int .i64 0,.pointer none] 58))) (z0b w (.cells #[.int .i64 0,.pointer none] 58)));clear h ho hn HN ha HX;have hI2:Hid (c.fb<w.heap.size):=HFBW;go_enter Tryd.func17,Tryd.ntmps17;go_wp2
 go_loopw [7] (fun _ wr=>Hid (∃ O' o',NthI c p i n w O a wr O' o')) (fun _ wr=>n+1 - fLen a wr)
 case atStart=>exact HI0
 case round=>
  obtain⟨O1,o1,hI⟩:=hrel.out;obtain⟨hop,hoa⟩:=hI.inv.at_ p i o1 hI.ho
  obtain⟨A,cc,hfv⟩:=z1k hoa.found;have hbox:=hoa.box;rw[hI.a,hfv] at hbox;obtain⟨L,hL⟩:∃ L,L=o1.found.length:=⟨_,rfl⟩;rw[←hL] at hbox;have c4:wr.cell? ⟨a,4,none⟩=some (.slice A L cc):=(z0c hbox 4).trans rfl;have r0:=(z0c hI.res 0).trans rfl;have r1:=(z0c hI.res 1).trans rfl;have fr:=z0m hI.res;have HFL:Hid (fLen a wr=L):=Lib.hid (y5w c4);have HI:=Lib.hid hI;have HLn:=Lib.hid hL;have hLn:n≤L:=by rw[hL];exact hI.le
  have hL60:L≤1000000:=by
   have h1:=(hI.inv.obj p i o1 hI.ho (Nat.le_refl _)).few;have:=HXO.out.lim;have:=HXO.out.size;rw[hL];simp at h1;omega
  by_cases hlt:L≤n
  ·have hd:decide ((L:Int)≤(n:Int))=true:=by simp;omega
   have HN1:Hid (Calls Tryd.prog 30 #[.pointer (some ⟨a,0,none⟩)] wr fun e w'=>∃ st u ok,e= .returned (.tuple #[.agg #[.int .i64 st,.pointer u],.bool ok])∧Hid (NextOk c p i o1 wr O1 w' st u ok)):=Lib.hid (by
    have:=HNC.out wr O1 i o1 hI.inv hI.ho;rw[hI.a] at this;exact this)
   clear hI hbox hrel hL hop hoa hfv
   go_upto_if 21 with (first | (go_at_call 30;((with_reducible refine(HN1.out).mono ?_));rintro _ w2 ⟨st,u,ok,rfl,HK⟩) | fail)
   cases ok with
   | false=>
     obtain⟨O2,o2,k1,k2,k3,k4,k5,_,k7⟩:=HK.out;obtain⟨k8,k9,rfl,rfl⟩:=k7 rfl;have hst:=HI.out.step k3 k1 (k2.whole fun o' ho'=>by rw[k1] at ho';injection ho' with ho';subst ho';exact k8) (by rw[k4];exact HI.out.le) (k5.trans HI.out.a);have hst2:=hst.step (.of_below (z0b w2 (.cells #[.int .i64 0,.pointer none] 58))) hst.ho (hst.inv.next (z0b _ _)) hst.le hst.a;have z0:=(z0c hst2.res 0).trans rfl;have z1:=(z0c hst2.res 1).trans rfl;have zf:=z0m hst2.res
     have HFin:Hid (NthOk c p i n w O (((w2.alloc (.cells #[.int .i64 0,.pointer none] 58)).setCell ⟨w.heap.size,0,none⟩ (.int .i64 0)).setCell ⟨w.heap.size,1,none⟩ (.pointer none)) 0 none false):=Lib.hid (by
      have hfr:Frm (fun k=>k=w.heap.size) (w2.alloc (.cells #[.int .i64 0,.pointer none] 58)) (((w2.alloc (.cells #[.int .i64 0,.pointer none] 58)).setCell ⟨w.heap.size,0,none⟩ (.int .i64 0)).setCell ⟨w.heap.size,1,none⟩ (.pointer none)):=(Frm.set (S:=fun k=>k=w.heap.size) (b:=w.heap.size) rfl 0 _ _).trans (Frm.set (S:=fun k=>k=w.heap.size) (b:=w.heap.size) rfl 1 _ _) fun _ _ q=>q
      have hfb:c.fb<w.heap.size:=by have:=hI2.out;exact this
      refine⟨O2,o2,k1,hst2.inv.frm hfr hfb hst2.free (fun X hX=>by rw[hst2.res] at hX;simp at hX),hst2.post.frm hfr (Nat.le_refl _),fun e=>(by cases e),fun _=>⟨k9,by rw[k4,←HLn.out];exact hlt,rfl,rfl⟩⟩)
     clear hst hst2 k1 k2 k3 k4 k5 k7 k8 k9;obtain⟨W3,hW3⟩:∃ W3,W3=(((w2.alloc (.cells #[.int .i64 0,.pointer none] 58)).setCell ⟨w.heap.size,0,none⟩ (.int .i64 0)).setCell ⟨w.heap.size,1,none⟩ (.pointer none)):=⟨_,rfl⟩
     have l0:W3.cell? ⟨w.heap.size,0,none⟩=some (.int .i64 0):=by
      rw[hW3,World.cell?_setCell_other _ _ _ _ (by simp)];exact World.cell?_setCell_same _ _ _ z0
     have l1:W3.cell? ⟨w.heap.size,1,none⟩=some (.pointer none):=by
      rw[hW3];exact World.cell?_setCell_same _ _ _ ((World.cell?_setCell_other _ _ _ _ (by simp)).trans z1)
     rw[←hW3] at HFin;go_wp2;rw[←hW3];clear hW3;exact bodyPost_ret (v:= .tuple #[.agg #[.int .i64 0,.pointer none],.bool false]) (by simp[results,Tryd.results17,go_sem,l0,l1]) rfl ⟨_,_,_,rfl,HFin⟩
   | true=>
     obtain⟨O2,o2,k1,k2,k3,k4,k5,k6,_⟩:=HK.out;obtain⟨f,kst,ku,kinv⟩:=k6 rfl;obtain⟨hop2,hoa2⟩:=k2.at_ p i o2 k1
     obtain⟨A2,cc2,hfv2⟩:=z1k hoa2.found;have hlen2:o2.found.length=L:=by rw[k4,←HLn.out]
     rw[hlen2] at hfv2;have hbox2:=hoa2.box;rw[k5,HI.out.a,hfv2] at hbox2;obtain⟨i0,hi0,hz0,hz1,hz2⟩:=info_parts x3b;have hal:a<w2.heap.size:=(Array.getElem?_eq_some_iff.mp hbox2).1;have hca:w2.cell? ⟨a,4,none⟩=some (.slice A2 L cc2):=(z0c hbox2 4).trans rfl;have l0:∀ o',(w2.alloc o').cell? ⟨a,4,none⟩=some (.slice A2 L cc2):=fun o'=>((z0b w2 o').cell (p:=⟨a,4,none⟩) hal).trans hca
     have l1:∀ o' o'',((w2.alloc o').alloc o'').cell? ⟨a,4,none⟩=some (.slice A2 L cc2):=fun o' o''=>(((z0b w2 o').alloc (by simp) o'').cell (p:=⟨a,4,none⟩) hal).trans hca
     have l2:∀ o' o'',((w2.alloc o').drew.alloc o'').cell? ⟨a,4,none⟩=some (.slice A2 L cc2):=fun o' o''=>(((z0b w2 o').drew.alloc (by simp) o'').cell (p:=⟨a,4,none⟩) hal).trans hca
     have hbN:(w2.alloc (.cells #[Value.int .i64 st,.pointer u] 58)).heap[w2.heap.size]?=some (.cells #[Value.int .i64 st,.pointer u] 58):=heap_alloc_new w2 _;have HS:Hid (∀ U:World,U.heap[w2.heap.size]?=some (.cells #[Value.int .i64 st,.pointer u] 58)→U.cell? ⟨w2.heap.size,0,none⟩=some (.int .i64 st)∧U.cell? ⟨w2.heap.size,1,none⟩=some (.pointer u)):=Lib.hid fun U e2=>⟨(z0c e2 0).trans rfl,(z0c e2 1).trans rfl⟩
     have HS1:=Lib.hid (HS.out (w2.alloc (.cells #[Value.int .i64 st,.pointer u] 58)).drew hbN);have hb2:Below (w2.heap.size+1) (w2.alloc (.cells #[Value.int .i64 st,.pointer u] 58)).drew ((w2.alloc (.cells #[Value.int .i64 st,.pointer u] 58)).drew.alloc (.cells #[Value.int .i64 st,.pointer u] 58)):=(Below.refl _ _).alloc (by simp) _;have HS2:=Lib.hid (HS.out ((w2.alloc (.cells #[Value.int .i64 st,.pointer u] 58)).drew.alloc (.cells #[Value.int .i64 st,.pointer u] 58)) ((hb2.block w2.heap.size (by omega)).trans hbN));have hbW:Below w2.heap.size w2 ((w2.alloc (.cells #[Value.int .i64 st,.pointer u] 58)).drew.alloc (.cells #[Value.int .i64 st,.pointer u] 58)):=(z0b w2 _).drew.alloc (by simp) _;obtain⟨B,hB⟩:∃ B,B=c.fb+1:=⟨_,rfl⟩;obtain⟨cs,hcs⟩:∃ cs,cs=o2.found.flatMap wayC:=⟨_,rfl⟩
     have HR2:Hid (((w2.alloc (.cells #[Value.int .i64 st,.pointer u] 58)).drew.alloc (.cells #[Value.int .i64 st,.pointer u] 58)).ownsRow B 58 2 (.slice A2 L cc2) L cs):=Lib.hid (by
      have:=z1x hoa2.found hbW;rw[hfv2,hlen2,←hB,←hcs] at this;exact this)
     have HN2:Hid (∀ (j:Nat) (v:Value),#[Value.int .i64 st,.pointer u].toList[j]?=some v→((w2.alloc (.cells #[Value.int .i64 st,.pointer u] 58)).drew.alloc (.cells #[Value.int .i64 st,.pointer u] 58)).cell? ((⟨w2.heap.size+1,0,none⟩:Addr).add j)=some v):=Lib.hid fun j v hv=>by
      have:=z0l (w2.alloc (.cells #[Value.int .i64 st,.pointer u] 58)).drew 58 #[Value.int .i64 st,.pointer u] j v hv;rw[show (w2.alloc (.cells #[Value.int .i64 st,.pointer u] 58)).drew.heap.size=w2.heap.size+1 by simp] at this;exact this
     have HO:Hid (∀ v∈[Value.int .i64 st,.pointer u],v.oneCell'=true):=Lib.hid fun v hv=>by
      simp only[List.mem_cons,List.not_mem_nil,or_false] at hv
      rcases hv with rfl | rfl <;> rfl
     have hnown:¬ o2.own w2.heap.size:=fun hq=>by have:=(hoa2.kind hq).2.1;omega
     have HT:Hid (∀ (g5 cap:Nat) (w5:World),w5.ownsRow B 58 2 (.slice (some ⟨g5,0,none⟩) (L+1) cap) (L+1) (cs++[Value.int .i64 st,.pointer u])→((w2.alloc (.cells #[Value.int .i64 st,.pointer u] 58)).drew.alloc (.cells #[Value.int .i64 st,.pointer u] 58)).grownBy w5 (Value.slice A2 L cc2).ownBlock→((Value.slice A2 L cc2).ownBlock=some g5∨g5=((w2.alloc (.cells #[Value.int .i64 st,.pointer u] 58)).drew.alloc (.cells #[Value.int .i64 st,.pointer u] 58)).heap.size)→
       Hid (∃ O3 o3,NthI c p i n w O a (w5.setCell ⟨a,4,none⟩ (.slice (some ⟨g5,0,none⟩) (L+1) cap)) O3 o3)∧w5.cell? ⟨a,4,none⟩=some (.slice A2 L cc2)∧w5.frozen? ⟨a,4,none⟩=false∧w5.heap[w2.heap.size]?=some (.cells #[Value.int .i64 st,.pointer u] 58)∧(w5.setCell ⟨a,4,none⟩ (.slice (some ⟨g5,0,none⟩) (L+1) cap)).heap[w2.heap.size]?=some (.cells #[Value.int .i64 st,.pointer u] 58)∧fLen a (w5.setCell ⟨a,4,none⟩ (.slice (some ⟨g5,0,none⟩) (L+1) cap))=L+1):=Lib.hid fun g5 cap w5 q1 q2 q3=>by
      have e:wayC f=[Value.int .i64 st,.pointer u]:=by unfold wayC;rw[←kst,←ku]
      rw[←e] at q1;have hbL:w2.heap.size≤((w2.alloc (.cells #[Value.int .i64 st,.pointer u] 58)).drew.alloc (.cells #[Value.int .i64 st,.pointer u] 58)).heap.size:=hbW.size;have hfm:=y8y (f:=f) hoa2 hbW hbL (by rw[hlen2,←hB,←hcs];exact q1) (by rw[hfv2];exact q2) (by rw[hfv2];exact q3);rw[hlen2] at hfm;obtain⟨hm,hea⟩:=hfm;have ea:o2.a=a:=k5.trans HI.out.a;rw[ea] at hea;have hbx:=hea.trans hbox2;have c5:w5.cell? ⟨a,4,none⟩=some (.slice A2 L cc2):=(z0c hbx 4).trans rfl
      have e1:w5.heap[w2.heap.size]?=some (.cells #[Value.int .i64 st,.pointer u] 58):=by
       rw[q2.block w2.heap.size (by simp;omega) (fun e=>hnown (.inr (.inr (.inl (by rw[hfv2];exact e.symm)))))];exact(hb2.block w2.heap.size (by omega)).trans hbN
      refine⟨?_,c5,z0m hbx 4,e1,(Below.heap_setCell _ _ _ _ (by show w2.heap.size≠a;omega)).trans e1,y5w (World.cell?_setCell_same _ _ _ c5)⟩;have hno:¬ butS p i p i:=fun hq=>hq.2 ⟨rfl,rfl⟩
      obtain⟨u1,u2⟩:=k2.upd k1 hno (o':={ o2 with fv:= .slice (some ⟨g5,0,none⟩) (L+1) cap,found:=o2.found++[f] }) hm ⟨[f],rfl⟩
      have hwh:=u1.whole fun o' ho'=>by
       rw[z0s] at ho';injection ho' with ho';subst ho'
       exact kinv.note (u1.at_ p i _ (z0s _ _ _ _)).2 (k2.trails u2) u2.mono
      have HI':=HI.out;rw[←ea] at HI' ⊢;exact Lib.hid ⟨_,_,HI'.step (k3.trans u2) (z0s _ _ _ _) hwh (by show n≤(o2.found++[f]).length;rw[List.length_append,hlen2];omega) rfl⟩
     have HSZ:Hid (B≤((w2.alloc (.cells #[Value.int .i64 st,.pointer u] 58)).drew.alloc (.cells #[Value.int .i64 st,.pointer u] 58)).heap.size):=Lib.hid (by have:=hoa2.gt;simp;rw[k5,HI.out.a] at this;omega);clear hbN hb2 hbW hB hcs hnown hal hca hbox2 hoa2 hop2 hfv2 hlen2 k1 k2 k3 k4 k5 k6 kinv kst ku r0 r1 fr c4;go_wp2;rw[show Op.load 84 (.tmp 26)=ldFd from rfl]
     go_region_held3 (fun w'=>w'.cell? ⟨w2.heap.size,0,none⟩=some (.int .i64 st)∧w'.cell? ⟨w2.heap.size,1,none⟩=some (.pointer u)) (first | exact HS1.out | exact HS2.out | exact hs5 | exact hs6) (first | (refine step_append_lies _ rfl (.tmp 27) (.tmp 29) 84 rfl B 58 i0 (.agg #[.int .i64 0,.pointer none]) 2 16 Tryd.underlying84 hi0 hz0 hz1 hz2 rfl (by decide) _ _ _ rfl HR2.out ⟨w2.heap.size+1,0,none⟩ 1 1 [Value.int .i64 st,.pointer u] rfl rfl HN2.out HO.out (by decide) (by unfold maxLen;omega) (by omega) HSZ.out _ rfl ?_;intro g5 cap5 w5 hown hgrow hat hlt5;have HD:=Lib.hid (HT.out g5 cap5 w5 hown hgrow hat);have hc5:=HD.out.2.1;have hf5:=HD.out.2.2.1;have hs5:=HS.out w5 HD.out.2.2.2.1;have hs6:=HS.out _ HD.out.2.2.2.2.1;clear hown hgrow hat hlt5) | fail)
     all_goals go_wp2
     all_goals go_roundw
     all_goals (first | exact HD.out.1 | (rw[HD.out.2.2.2.2.2,HFL.out];omega))
  ·have hd:decide ((L:Int)≤(n:Int))=false:=by simp;omega
   have hnl:n<L:=by omega
   obtain⟨f,hf⟩:∃ f,o1.found[n]?=some f:=⟨_,List.getElem?_eq_getElem (by omega)⟩
   obtain⟨g,hA⟩:∃ g,A=some ⟨g,0,none⟩:=by
    rcases z3r hoa.found with ⟨e,e2⟩ | ⟨g,cap,e,_⟩
    ·omega
    ·rw[hfv] at e;injection e with e;exact⟨g,e⟩
   subst hA;have hcs:=hoa.found.cells (g:=g) (by rw[hfv];rfl);obtain⟨w1,w2'⟩:=y4e hf;obtain⟨u,hu⟩:∃ u,Value.pointer u=pv f.tl:=⟨_,rfl⟩;obtain⟨st,hst⟩:∃ st:Int,st=(f.stop:Nat):=⟨_,rfl⟩;have hadd:∀ j,(⟨g,0,none⟩:Addr).add j=⟨g,j,none⟩:=fun j=>by unfold Addr.add;split <;> simp_all
   have b0:wr.cell? ⟨g,n * 2,none⟩=some (.int .i64 st):=by
    have:=hcs _ _ w1;rw[hadd] at this;rw[hst];exact this
   have b1:wr.cell? ⟨g,n * 2+1,none⟩=some (.pointer u):=by
    have:=hcs _ _ w2';rw[hadd] at this;rw[hu];exact this
   have z0:=(z0c hI.res 0).trans rfl;have z1:=(z0c hI.res 1).trans rfl;obtain⟨W3,hW3⟩:∃ W3,W3=((wr.setCell ⟨w.heap.size,0,none⟩ (.int .i64 st)).setCell ⟨w.heap.size,1,none⟩ (.pointer u)):=⟨_,rfl⟩
   have l0:W3.cell? ⟨w.heap.size,0,none⟩=some (.int .i64 st):=by
    rw[hW3,World.cell?_setCell_other _ _ _ _ (by simp)];exact World.cell?_setCell_same _ _ _ z0
   have l1:W3.cell? ⟨w.heap.size,1,none⟩=some (.pointer u):=by
    rw[hW3];exact World.cell?_setCell_same _ _ _ ((World.cell?_setCell_other _ _ _ _ (by simp)).trans z1)
   have HFin:Hid (NthOk c p i n w O W3 st u true):=Lib.hid (by
    have hfr:Frm (fun k=>k=w.heap.size) wr W3:=by
     rw[hW3];exact(Frm.set (S:=fun k=>k=w.heap.size) (b:=w.heap.size) rfl 0 _ _).trans (Frm.set (S:=fun k=>k=w.heap.size) (b:=w.heap.size) rfl 1 _ _) fun _ _ q=>q
    have hfb:c.fb<w.heap.size:=hI2.out;exact⟨O1,o1,hI.ho,hI.inv.frm hfr hfb hI.free (fun X hX=>by rw[hI.res] at hX;simp at hX),hI.post.frm hfr (Nat.le_refl _),fun _=>⟨f,hf,hst,hu⟩,fun e=>(by cases e)⟩)
   have HW3:=Lib.hid hW3;have HL3:=Lib.hid (And.intro l0 l1);clear hW3 hI hbox hrel hL hop hoa hfv hcs hf w1 w2' hu hst z0 z1 l0 l1 hadd;go_wp2;rw[←HW3.out];obtain⟨l0,l1⟩:=HL3.out;exact bodyPost_ret (v:= .tuple #[.agg #[.int .i64 st,.pointer u],.bool true]) (by simp[results,Tryd.results17,go_sem,l0,l1]) rfl ⟨_,_,_,rfl,HFin⟩
end
end Go.Proofs.YtejgbpbljdhndaaDoor
