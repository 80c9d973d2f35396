import Derived.Test.YtdobinjbejagcaaGreatDoorPm6
import Derived.Test.YtdobinjbejagcaaGreatDoorPm7
import Derived.Test.YtdobinjbejagcaaGreatDoorTkS
namespace Go.Proofs.YtdobinjbejagcaaGreatDoor
open Go Go.RowKit
def KepP (w w':World):Prop:=w.heap.size≤w'.heap.size∧∀ (k:Nat) (cs:Array Value) (T:TypeId),w.heap[k]?=some (.cells cs T (0,0))→T≠48→w'.heap[k]?=some (.cells cs T (0,0))
theorem KepP.refl (w:World):KepP w w:=⟨Nat.le_refl _,fun _ _ _ h _=>h⟩
theorem KepP.trans {a b c:World} (h:KepP a b) (k:KepP b c):KepP a c:=⟨Nat.le_trans h.1 k.1,fun i cs T hi ht=>k.2 i cs T (h.2 i cs T hi ht) ht⟩
theorem KepP.below {w w':World} (h:Below w.heap.size w w'):KepP w w':=⟨h.size,fun k cs T hk _=>by rw[h.block k (Array.getElem?_eq_some_iff.1 hk).1];exact hk⟩
theorem KepP.grown {w w':World} {B n:Nat} {v:Value} {xs:List Value} (h:w.ownsRow B 48 5 v n xs) (hg:w.grownBy w' v.ownBlock):KepP w w':=by
 refine⟨hg.size,fun k cs T hk ht=>?_⟩;rw[hg.block k (Array.getElem?_eq_some_iff.1 hk).1 ?_]
 ·exact hk
 ·intro e
  rcases h.2 with ⟨rfl,_⟩ | ⟨g,cap,cur,rfl,_,hh,_⟩
  ·simp[Value.ownBlock] at e
  ·simp only[Value.ownBlock,Option.some.injEq] at e
   subst e;rw[hk] at hh;injection hh with hh
   injection hh with _ ht'
   exact ht ht'
theorem KepP.box {w w':World} {T:TypeId} {vs:List Value} (h:KepP (w.alloc (.cells vs.toArray T)) w') (ht:T≠48):BoxP w' w.heap.size vs:=by
 have hk:=heap_alloc_new w (.cells vs.toArray T);exact(BoxP.new w T vs).block (by rw[h.2 _ _ _ hk ht,hk])
theorem Tks.cat {B:Nat} {w0 w w':World} {v v':Value} {q q2:List Tv} (h:Tks B w0 w v q) (h2:∀ x∈q2,OwnP B w x.2 x.1.parts) (ho:w'.ownsRow B 48 5 v' (q.length+q2.length) (cellsT q++cellsT q2)) (hg:w.grownBy w' v.ownBlock):Tks B w0 w' v' (q++q2):=by
 refine⟨by rw[cellsT_append,List.length_append];exact ho,fun x hx=>?_,h.below.grown hg h.size (fun k hk=>(h.row.lt k hk).1),Nat.le_trans h.size hg.size⟩
 rcases List.mem_append.1 hx with hx | hx
 ·exact(h.parts x hx).kept hg (own_ne (h.parts x hx) h.row (by decide))
 ·exact(h2 x hx).kept hg (own_ne (h2 x hx) h.row (by decide))
theorem own_lowP {w:World} {B B' s n:Nat} {e:TypeId} {v:Value} {xs:List Value} (h:w.ownsRow B e s v n xs) (hB:B'≤B):w.ownsRow B' e s v n xs:=by
 obtain⟨h1,h2⟩:=h;refine⟨h1,?_⟩
 rcases h2 with h2 | ⟨g,cap,cur,rfl,h3,h4⟩
 ·exact .inl h2
 ·exact .inr ⟨g,cap,cur,rfl,by omega,h4⟩
structure PrT (w W0:World) (v:Value) (q:List Tv) (T:List Tok) (W:World):Prop where
 tk:Tks w.heap.size w W v q
 kep:KepP W0 W
 is:q.map (·.1)=T
theorem PrT.below {w W0 W W':World} {v:Value} {q:List Tv} {T:List Tok} (h:PrT w W0 v q T W) (hb:Below W.heap.size W W'):PrT w W0 v q T W':=⟨h.tk.beyond hb,h.kep.trans (.below hb),h.is⟩
theorem PrT.alloc {w W0 W:World} {v:Value} {q:List Tv} {T:List Tok} (h:PrT w W0 v q T W) (o:Obj):PrT w W0 v q T (W.alloc o):=h.below (one_boxP W o)
theorem PrT.from {w W0 W0' W:World} {v:Value} {q:List Tv} {T:List Tok} (h:PrT w W0 v q T W) (hk:KepP W0' W):PrT w W0' v q T W:=⟨h.tk,hk,h.is⟩
theorem PrT.len {w W0 W:World} {v:Value} {q:List Tv} {T:List Tok} (h:PrT w W0 v q T W):q.length=T.length:=by rw[←h.is,List.length_map]
theorem PrT.cat {w W0 W W':World} {v v':Value} {q:List Tv} {T:List Tok} {m:Nat} {xs:List Value} (h:PrT w W0 v q T W) (q2:List Tv) (h2:∀ x∈q2,OwnP w.heap.size W x.2 x.1.parts) (hm:q2.length=m) (hx:xs=cellsT q2) (ho:W'.ownsRow w.heap.size 48 5 v' (q.length+m) (cellsT q++xs)) (hg:W.grownBy W' v.ownBlock):PrT w W0 v' (q++q2) (T++q2.map (·.1)) W':=by
 subst hm;subst hx;exact⟨h.tk.cat h2 ho hg,h.kep.trans (.grown h.tk.row hg),by rw[List.map_append,h.is]⟩
theorem PrT.to {w W0 W:World} {v:Value} {q:List Tv} {T T':List Tok} (h:PrT w W0 v q T W) (e:T=T'):PrT w W0 v q T' W:=e ▸ h
abbrev tvP (T:List Tok):List Tv:=T.map fun t=>(t,.slice none 0 0)
theorem tvP_own {B:Nat} {W:World} {T:List Tok} (h:∀ t∈T,t.parts=[]):∀ x∈tvP T,OwnP B W x.2 x.1.parts:=by
 intro x hx;obtain⟨t,ht,rfl⟩:=List.mem_map.1 hx;show OwnP B W _ t.parts;rw[h t ht];exact World.ownsRow_nil _ _ _ _
theorem tvP_map (T:List Tok):(tvP T).map (·.1)=T:=by
 unfold tvP;rw[List.map_map];exact List.map_id' T
theorem ten_one (a b c a' b' c':Int) (W W':ByteArray) (A A':Option Addr) (n m n' m':Nat):∀ u∈[Value.int .i64 a,.string W,.int .i64 b,.slice A n m,.int .i64 c,.int .i64 a',.string W',.int .i64 b',.slice A' n' m',.int .i64 c'],u.oneCell'=true:=by
 intro u hu;simp only[List.mem_cons,List.not_mem_nil,or_false] at hu
 rcases hu with rfl | rfl | rfl | rfl | rfl | rfl | rfl | rfl | rfl | rfl <;> rfl
theorem BoxP.all3 {w:World} {c:Nat} {v0 v1 v2:Value} (h:BoxP w c [v0,v1,v2]):w.cell? ⟨c,0,none⟩=some v0∧w.cell? ⟨c,1,none⟩=some v1∧w.cell? ⟨c,2,none⟩=some v2:=⟨h.at_ 0 _ rfl,h.at_ 1 _ rfl,h.at_ 2 _ rfl⟩
theorem tvP_two {B:Nat} {W:World} (a b:Tok) (ha:a.parts=[]) (hb:b.parts=[]):∀ x∈tvP [a,b],OwnP B W x.2 x.1.parts:=tvP_own fun t ht=>by
 simp only[List.mem_cons,List.not_mem_nil,or_false] at ht
 rcases ht with rfl | rfl <;> assumption
theorem tvP_one {B:Nat} {W:World} (a:Tok) (ha:a.parts=[]):∀ x∈tvP [a],OwnP B W x.2 x.1.parts:=tvP_own fun t ht=>by
 simp only[List.mem_cons,List.not_mem_nil,or_false] at ht
 rcases ht with rfl;assumption
theorem flat_le {α β:Type} {f:α→List β} {m:Nat}:∀ l:List α,(∀ x∈l,(f x).length≤m)→(l.flatMap f).length≤l.length * m
 | [],_=>by simp
 | a::l,h=>by
   have:=flat_le l fun x hx=>h x (by simp[hx])
   have:=h a (by simp);rw[List.flatMap_cons,List.length_append,List.length_cons,Nat.succ_mul];omega
theorem tokEd_le (ns:List Bs) (e:EdP):(tokEd ns e).length≤7:=by
 unfold tokEd tokDl
 split
 ·simp
 ·split <;> simp
theorem edsT_le (ns:List Bs) (es:List EdP) (k:Nat) (h:es.length≤8):((es.take k).flatMap (tokEd ns)).length≤56:=by
 have:=flat_le (es.take k) fun x _=>tokEd_le ns x
 have h2:(es.take k).length≤es.length:=List.length_take_le' _ _;omega
theorem tokPl_le (ns:List Bs) {x:PlP} (h:x.edges.length≤8):(tokPl ns x).length≤61:=by
 have:=edsT_le ns x.edges x.edges.length h;rw[List.take_length] at this;have h2:(if x.echo then [wdT wEcho] else ([]:List Tok)).length≤1:=by split <;> simp
 unfold tokPl;simp only[List.length_append,List.length_cons,List.length_nil];omega
theorem plsT_le (ns:List Bs) (xs:List PlP) (k:Nat) (h:xs.length≤16) (hx:∀ x∈xs,x.edges.length≤8):((xs.take k).flatMap (tokPl ns)).length≤976:=by
 have:=flat_le (f:=tokPl ns) (xs.take k) fun x hm=>tokPl_le ns (hx x (List.mem_of_mem_take hm))
 have h2:(xs.take k).length≤xs.length:=List.length_take_le' _ _;omega
theorem take_flat {α β:Type} (f:α→List β) {l:List α} {k:Nat} {x:α} (h:l[k]?=some x):(l.take (k+1)).flatMap f=(l.take k).flatMap f++f x:=by
 rw[List.take_succ_eq_append_getElem (List.getElem?_eq_some_iff.1 h).1,List.flatMap_append,(List.getElem?_eq_some_iff.1 h).2];simp
theorem take_flat_all {α β:Type} (f:α→List β) {l:List α} {k:Nat} (h:¬ k<l.length):(l.take k).flatMap f=l.flatMap f:=by rw[List.take_of_length_le (by omega)]
theorem own_slice {w:World} {B s n:Nat} {e:TypeId} {v:Value} {xs:List Value} (h:w.ownsRow B e s v n xs):∃ A m c,v= .slice A m c:=by
 rcases h.2 with ⟨rfl,_⟩ | ⟨g,cap,cur,rfl,_⟩
 ·exact⟨_,_,_,rfl⟩
 ·exact⟨_,_,_,rfl⟩
theorem cellsT_onep {B:Nat} {w:World} {q:List Tv} (h:∀ x∈q,OwnP B w x.2 x.1.parts):∀ u∈cellsT q,u.oneCell'=true:=by
 intro u hu;obtain⟨x,hx,hu⟩:=List.mem_flatMap.1 hu;obtain⟨A,m,c,e⟩:=own_slice (h x hx);rw[e] at hu;exact five_one _ _ _ _ _ _ _ u hu
theorem pdelay3_any (e:EdP) (w:World):Calls Tryz.prog 20 #[.agg #[.int .i64 e.kind,.string ⟨e.text.toArray⟩,.int .i64 e.lo,.int .i64 e.hi,.int .i64 e.to]] w fun r w'=>∃ g cap q2,r= .returned (.slice (some ⟨g,0,none⟩) 3 cap)∧Below w.heap.size w w'∧
  Hid (w'.ownsRow w.heap.size 48 5 (.slice (some ⟨g,0,none⟩) 3 cap) 3 (cellsT q2)∧(∀ x∈q2,OwnP w.heap.size w' x.2 x.1.parts)∧q2.map (·.1)=tokDl e∧q2.length=3):=
 (pdelaytok_any e w).mono fun r w' ⟨v,q,hr,ht,hm⟩=>by
  have hl:q.length=3:=by
   have:=congrArg List.length hm;rw[List.length_map] at this;rw[this];rfl
  obtain⟨g,cap,h1, -⟩:=ht.row.form (by omega);subst h1;have hrow:=ht.row;rw[hl] at hrow hr;exact⟨g,cap,q,hr,ht.below,Lib.hid ⟨hrow,ht.parts,hm,hl⟩⟩
theorem ptextt_any (s:Bs) (w:World):Calls Tryz.prog 19 #[.string ⟨s.toArray⟩] w fun r w'=>∃ A m c,r= .returned (.agg #[.int .i64 3,.string ⟨#[]⟩,.int .i64 0,.slice A m c,.int .i64 0])∧Below w.heap.size w w'∧Hid (OwnP w.heap.size w' (.slice A m c) (txt s).parts):=
 (ptexttok_any s w).mono fun r w' ⟨u,hr,ho,hb⟩=>by
  obtain⟨A,m,c,rfl⟩:=own_slice ho;exact⟨A,m,c,hr,hb,Lib.hid ho⟩
theorem mayEd_kinds {p:PeP} {e:EdP} (h:mayEd p e=true):e.kind=1∨e.kind=2∨e.kind=3:=by
 unfold mayEd at h;by_cases k1:e.kind=1
 ·exact .inl k1
 ·by_cases k2:e.kind=2
  ·exact .inr (.inl k2)
  ·rw[if_neg k1,if_neg k2,Bool.and_eq_true] at h
   exact .inr (.inr (of_decide_eq_true h.1))
theorem goes_at {p:PeP} {e:EdP} {ns:List Bs} (hns:ns=p.places.map (·.name)) (h:mayEd p e=true) (hk:e.kind=1∨e.kind=2):∃ (j:Nat) (y:PlP),e.to=j∧p.places[j]?=some y∧y.name=toN ns e:=by
 have hlen:p.places.length=ns.length:=by rw[hns,List.length_map]
 have hto:mayTo ns.length e=true:=by
  unfold mayEd at h;rw[hlen] at h;by_cases k1:e.kind=1
  ·rw[if_pos k1] at h;simp only[Bool.and_eq_true] at h;exact h.2.1
  ·rw[if_neg k1,if_pos (by omega)] at h;simp only[Bool.and_eq_true] at h;exact h.2.2.1
 obtain⟨hi,hN,hT⟩:=toN_at hto;have hi':e.to.toNat<p.places.length:=by omega
 refine⟨e.to.toNat,p.places[e.to.toNat],hT.symm,List.getElem?_eq_getElem hi',?_⟩;rw[hN];subst hns;rw[List.getElem_map]
theorem mayPe_parts {p:PeP} (h:mayPe p=true):1≤p.cap∧p.cap≤16∧1≤p.places.length∧p.places.length≤16∧(∀ x∈p.places,x.edges.length≤8)∧∀ x∈p.places,∀ e∈x.edges,mayEd p e=true:=by
 unfold mayPe at h;simp only[Bool.and_eq_true,decide_eq_true_eq,List.all_eq_true] at h;obtain⟨⟨h1,h2⟩,⟨h3,h4⟩,h5, -⟩:=h;refine⟨h1,h2,h3,h4,fun x hx=>?_,fun x hx=>?_⟩
 ·have:=h5 x hx
  unfold mayPl at this;simp only[Bool.and_eq_true,decide_eq_true_eq,List.all_eq_true] at this;exact this.2.2.1
 ·have:=h5 x hx
  unfold mayPl at this;simp only[Bool.and_eq_true,decide_eq_true_eq,List.all_eq_true] at this;exact this.2.2.2
theorem prB_le (c:UInt8):(prB c).length≤4:=by
 unfold prB
 repeat' split
 all_goals simp
theorem prBs_le:∀ s:Bs,(s.flatMap prB).length≤4 * s.length
 | []=>by simp
 | c::s=>by
   have:=prBs_le s;have:=prB_le c;rw[List.flatMap_cons,List.length_append,List.length_cons];omega
theorem print_txt (s:Bs):(print (txt s).parts).length≤4 * s.length+2:=by
 unfold txt;have:=prBs_le s;by_cases h:s=[]
 ·subst h;simp[print]
 ·simp only[if_neg h]
  unfold print prP prV;simp;simp at this;omega
def litT (t:Tok):Prop:=FitT t∧(candT t).length≤2000
theorem lit_wd {w:Bs} (h:w.length≤60):litT (wdT w):=
 ⟨⟨by show w.length≤_;omega,by show (-9223372036854775808:Int)≤0∧(0:Int)≤_;decide,by show (0:Nat)≤_;decide,(by intro p hp;cases hp),(by intro p hp;cases hp),by show (print []).length≤_;decide⟩,by
   show (if (1:Int)=1∨(1:Int)=4 then w else _).length≤_;rw[if_pos (.inl rfl)];omega⟩
theorem lit_sg {w:Bs} (h:w.length≤60):litT (sgn w):=
 ⟨⟨by show w.length≤_;omega,by show (-9223372036854775808:Int)≤0∧(0:Int)≤_;decide,by show (0:Nat)≤_;decide,(by intro p hp;cases hp),(by intro p hp;cases hp),by show (print []).length≤_;decide⟩,by
   show (if (4:Int)=1∨(4:Int)=4 then w else _).length≤_;rw[if_pos (.inr rfl)];omega⟩
theorem lit_nm {n:Int} (h0:0≤n) (h:n≤16):litT (nmb n):=
 ⟨⟨by show (0:Nat)≤_;decide,⟨by show _≤n;omega,by show n≤_;omega⟩,by show (0:Nat)≤_;decide,(by intro p hp;cases hp),(by intro p hp;cases hp),by show (print []).length≤_;decide⟩,by
   rw[cand_ok (okN_num h0 h).1,textT_2 rfl];show (Lib.itoa n).length≤_;have:=Lib.itoa_length_le n (by omega) (by omega);omega⟩
theorem lit_tx {s:Bs} (h:s.length≤60):litT (txt s):=by
 have hp:=print_txt s
 have hpl:(txt s).parts.length≤1∧∀ p∈(txt s).parts,p.1.length≤100000∧p.2.length≤100000:=by
  unfold txt;by_cases e:s=[]
  ·simp[e]
  ·simp[e];omega
 refine⟨⟨by show (0:Nat)≤_;decide,by show (-9223372036854775808:Int)≤0∧(0:Int)≤_;decide,by omega,fun p hp=>(hpl.2 p hp).1,fun p hp=>(hpl.2 p hp).2,by omega⟩,?_⟩;rw[cand_ok (okN_txt s).1,textT_3 rfl];omega
theorem smallPe_all {p:PeP} (h:smallPe p=true):∀ x∈p.places,x.name.length≤60∧∀ e∈x.edges,e.text.length≤60:=by
 unfold smallPe at h;simp only[Bool.and_eq_true,decide_eq_true_eq,List.all_eq_true] at h;intro x hx;have:=h.2 x hx;unfold smallPl smallEd at this;simp only[Bool.and_eq_true,decide_eq_true_eq,List.all_eq_true] at this;exact this.2
theorem lit_pe {p:PeP} (hs:smallPe p=true) (hp:mayPe p=true):∀ t∈tokPe p,litT t:=by
 have hall:=smallPe_all hs;unfold mayPe at hp;simp only[Bool.and_eq_true,decide_eq_true_eq,List.all_eq_true] at hp;obtain⟨⟨c1,c2⟩, -,hP, -⟩:=hp;obtain⟨ns,hns⟩:∃ ns,ns=p.places.map (·.name):=⟨_,rfl⟩
 have hto:∀ e,(toN ns e).length≤60:=by
  intro e;unfold toN
  cases h:ns[e.to.toNat]? with
  | none=>simp
  | some w=>
    have hm:=List.mem_of_getElem? h;rw[hns] at hm;obtain⟨x,hx,rfl⟩:=List.mem_map.1 hm;exact(hall x hx).1
 have hdl:∀ e,mayTimes e=true→∀ t∈tokDl e,litT t:=by
  intro e h t ht;unfold mayTimes at h;simp only[Bool.and_eq_true,Bool.or_eq_true,decide_eq_true_eq] at h;obtain⟨⟨h0,h9⟩,hh⟩:=h;unfold tokDl at ht;simp only[List.mem_cons,List.not_mem_nil,or_false] at ht
  rcases ht with rfl | rfl | rfl
  ·exact lit_wd (by decide)
  ·exact lit_nm h0 (by omega)
  ·split
   ·exact lit_wd (by decide)
   ·exact lit_nm (by omega) (by omega)
 unfold tokPe;rw[←hns];intro t ht;simp only[List.mem_append,List.mem_cons,List.not_mem_nil,or_false] at ht
 rcases ht with (rfl | rfl) | ht
 ·exact lit_wd (by decide)
 ·exact lit_nm (by omega) c2
 ·obtain⟨x,hx,htx⟩:=List.mem_flatMap.1 ht
  have hx2:=hall x hx;have hmx:=hP x hx;unfold mayPl at hmx;simp only[Bool.and_eq_true,decide_eq_true_eq,List.all_eq_true] at hmx;unfold tokPl at htx;simp only[List.mem_append,List.mem_cons,List.not_mem_nil,or_false] at htx
  rcases htx with (rfl | rfl) | ht | rfl | ht | rfl
  ·exact lit_wd (by decide)
  ·exact lit_wd hx2.1
  ·split at ht
   ·rw[List.mem_singleton] at ht;subst ht;exact lit_wd (by decide)
   ·cases ht
  ·exact lit_sg (by decide)
  ·obtain⟨e,he,hte⟩:=List.mem_flatMap.1 ht
   have hme:=hmx.2.2.2 e he;unfold mayEd at hme;unfold tokEd at hte;by_cases k1:e.kind=1
   ·rw[if_pos k1] at hte hme
    simp only[Bool.and_eq_true] at hme;simp only[List.mem_append,List.mem_cons,List.not_mem_nil,or_false] at hte
    rcases hte with (rfl | rfl) | hte | rfl | rfl
    ·exact lit_wd (by decide)
    ·exact lit_tx (hx2.2 e he)
    ·exact hdl e hme.1 t hte
    ·exact lit_wd (by decide)
    ·exact lit_wd (hto e)
   ·rw[if_neg k1] at hte hme
    by_cases k2:e.kind=2
    ·rw[if_pos k2] at hte hme
     simp only[List.mem_append,List.mem_cons,List.not_mem_nil,or_false] at hte
     rcases hte with (rfl | rfl) | rfl | rfl
     ·exact lit_wd (by decide)
     ·exact lit_tx (hx2.2 e he)
     ·exact lit_wd (by decide)
     ·exact lit_wd (hto e)
    ·rw[if_neg k2] at hte hme
     simp only[Bool.and_eq_true] at hme;simp only[List.mem_append,List.mem_cons,List.not_mem_nil,or_false] at hte
     rcases hte with rfl | hte
     ·exact lit_wd (by decide)
     ·exact hdl e hme.2.1 t hte
  ·exact lit_sg (by decide)
theorem joinPe_len {ts:List Tok} (hf:∀ t∈ts,litT t) (hok:∀ t∈ts,okT t=true) (hn:ts.length≤1000) (k:Nat):(joinT (ts.take k)).length≤2001000:=by
 have h1:(ts.take k).all okT=true:=List.all_eq_true.2 fun t ht=>hok t (List.mem_of_mem_take ht)
 by_cases hk:k≤1000
 ·have:=joinT_take (fun t ht ho=>by rw[←cand_ok ho];exact(hf t ht).2) k h1
  have:k * 2001≤1000 * 2001:=Nat.mul_le_mul_right _ hk;omega
 ·have h2:(ts.take 1000).all okT=true:=List.all_eq_true.2 fun t ht=>hok t (List.mem_of_mem_take ht)
  have:=joinT_take (fun t ht ho=>by rw[←cand_ok ho];exact(hf t ht).2) 1000 h2;rw[List.take_of_length_le (by omega)] at this ⊢;omega
end Go.Proofs.YtdobinjbejagcaaGreatDoor
