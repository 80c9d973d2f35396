import Derived.Test.YtiafefjaldcpbaaDoorStab4
namespace Go.Proofs.YtiafefjaldcpbaaDoor
open Go Go.RowKit
mutual
def unN:Re→Re
 | .mk k S ks lo hi _=> .mk k S (unNL ks) lo hi 0
def unNL:List Re→List Re
 | []=>[]
 | r::rs=>unN r::unNL rs
end
theorem unNL_map:∀ l,unNL l=l.map unN
 | []=>by rw[unNL];rfl
 | r::l=>by rw[unNL,unNL_map l];rfl
theorem unNL_snoc {l l':List Re} {x x':Re} (h:unNL l'=unNL l) (hx:unN x'=unN x):unNL (l'++[x'])=unNL (l++[x]):=by
 rw[unNL_map,unNL_map] at *;rw[List.map_append,List.map_append,h,List.map_cons,List.map_cons,hx]
theorem unN_kind {x x':Re} (h:unN x'=unN x):x'.kind=x.kind:=by
 obtain⟨k,S,ks,lo,hi,n⟩:=x;obtain⟨k',S',ks',lo',hi',n'⟩:=x';rw[unN,unN] at h;injection h
theorem unN_rep {x x':Re} (h:unN x'=unN x):rep x'=rep x:=by unfold rep;rw[unN_kind h]
theorem unN_rRep {x x':Re} (h:unN x'=unN x) (lo hi:Int):unN (rRep x' lo hi)=unN (rRep x lo hi):=by
 unfold rRep;rw[unN,unN,unNL,unNL,unNL,unNL,h]
theorem unN_rGrp {x x':Re} (h:unN x'=unN x) (n n':Int):unN (rGrp x' n')=unN (rGrp x n):=by
 unfold rGrp;rw[unN,unN,unNL,unNL,unNL,unNL,h]
theorem unN_row {l l':List Re} (h:unNL l'=unNL l):unN (mkRow l')=unN (mkRow l):=by
 rw[unNL_map,unNL_map] at h
 match l,l',h with
 | [],[],_=>rfl
 | [],_::_,h=>cases h
 | _::_,[],h=>cases h
 | [a],[a'],h=>simpa[mkRow] using h
 | [_],_::_::_,h=>simp at h
 | _::_::_,[_],h=>simp at h
 | a::b::l,a'::b'::l',h=>
   show unN (.mk 4 none4 (a'::b'::l') 0 0 0)=unN (.mk 4 none4 (a::b::l) 0 0 0);rw[unN,unN,unNL_map,unNL_map,h]
theorem unN_alt {l l':List Re} (h:unNL l'=unNL l):unN (mkAlt l')=unN (mkAlt l):=by
 rw[unNL_map,unNL_map] at h
 match l,l',h with
 | [],[],_=>rfl
 | [],_::_,h=>cases h
 | _::_,[],h=>cases h
 | [a],[a'],h=>simpa[mkAlt] using h
 | [_],_::_::_,h=>simp at h
 | _::_::_,[_],h=>simp at h
 | a::b::l,a'::b'::l',h=>
   show unN (.mk 5 none4 (a'::b'::l') 0 0 0)=unN (.mk 5 none4 (a::b::l) 0 0 0);rw[unN,unN,unNL_map,unNL_map,h]
structure Mv (s T:Bs) (P:Nat):Prop where
 eq:∀ i,i<s.length→T[P+i]?=s[i]?
 fin:T[P+s.length]?=some 41
theorem Mv.len {s T:Bs} {P:Nat} (h:Mv s T P):P+s.length<T.length:=lt_of_get h.fin
theorem Mv.has {s T:Bs} {P:Nat} (h:Mv s T P) {k:Nat} {c:UInt8} (hc:s[k]?=some c):T[P+k]?=some c:=by
 rw[h.eq k (lt_of_get hc),hc]
theorem Mv.hasnt {s T:Bs} {P:Nat} (h:Mv s T P) {k:Nat} {c:UInt8} (hk:k≤s.length) (hc:c≠41) (hn:s[k]?≠some c):T[P+k]?≠some c:=by
 by_cases hk':k<s.length
 ·rw[h.eq k hk'];exact hn
 ·obtain rfl:k=s.length:=by omega
  rw[h.fin];intro he;injection he with he;exact hc he.symm
theorem Mv.stops {s T:Bs} {P:Nat} (h:Mv s T P) {k:Nat} (hk:k≤s.length):stops T (P+k)=stops s k:=by
 unfold Go.Proofs.YtiafefjaldcpbaaDoor.stops;by_cases hk':k<s.length
 ·rw[h.eq k hk']
 ·obtain rfl:k=s.length:=by omega
  rw[h.fin,List.getElem?_eq_none (Nat.le_refl _)]
  rfl
theorem rb_mv {sg s T:Bs} {P k q:Nat} {c:UInt8} (h:Mv s T P) (hr:rb sg s k= .ok c q):rb sg T (P+k)= .ok c (P+q):=by
 rw[rb_get] at hr ⊢
 cases h0:s[k]? with
 | none=>rw[h0] at hr;cases hr
 | some d=>
   rw[h0] at hr;rw[h.has h0];dsimp only at hr ⊢;by_cases hd:d=92
   ·rw[if_pos hd] at hr ⊢
    cases h1:s[k+1]? with
    | none=>rw[h1] at hr;cases hr
    | some d'=>
      rw[h1] at hr;rw[show P+k+1=P+(k+1) from rfl,h.has h1];injection hr with e1 e2
      subst e1 e2
      rfl
   ·rw[if_neg hd] at hr ⊢
    by_cases hm:d∈sg
    ·rw[if_pos hm] at hr;cases hr
    ·rw[if_neg hm] at hr ⊢
     injection hr with e1 e2
     subst e1 e2
     rfl
theorem item_mv {s T:Bs} {P k q:Nat} {sp:Sp} (h:Mv s T P) (hk:k≤s.length) (hr:item s k= .ok sp q):item T (P+k)= .ok sp (P+q):=by
 unfold item at hr ⊢
 cases h0:rb sgI s k with
 | bad q0=>rw[h0] at hr;cases hr
 | ok lo q0=>
   have hb:=rb_ok hk h0;rw[h0] at hr;rw[rb_mv h h0];dsimp only at hr ⊢;by_cases h1:s[q0]?=some 45
   ·rw[if_pos h1] at hr
    rw[if_pos (h.has h1)]
    cases h2:rb sgI s (q0+1) with
    | bad q2=>rw[h2] at hr;cases hr
    | ok hi q2=>
      rw[h2] at hr;rw[show P+q0+1=P+(q0+1) from rfl,rb_mv h h2];dsimp only at hr ⊢;by_cases h3:(hi.toNat:Int)<(lo.toNat:Int)
      ·rw[if_pos h3] at hr;cases hr
      ·rw[if_neg h3] at hr ⊢
       injection hr with e1 e2
       subst e1 e2
       rfl
   ·rw[if_neg h1] at hr
    rw[if_neg (h.hasnt (by omega) (by decide) h1)];injection hr with e1 e2
    subst e1 e2
    rfl
theorem goS_mv {s T:Bs} {P:Nat} (h:Mv s T P) (k:Nat) (acc:List Sp) (hk:k≤s.length):∀ l q,goS s k acc= .ok l q→goS T (P+k) acc= .ok l (P+q):=by
 have hl:=h.len;refine goS_ind (s:=s) (fun k acc=>∀ l q,goS s k acc= .ok l q→goS T (P+k) acc= .ok l (P+q)) ?_ ?_ ?_ (s.length - k+1) k acc (by omega) hk
 ·intro k acc ha h1 l q hr
  rw[goS_end ha h1] at hr;rw[goS_end ha (h.has h1)];injection hr with e1 e2
  subst e1 e2
  rfl
 ·intro k q acc hk he hi l q' hr
  rw[goS_bad he hi] at hr;cases hr
 ·intro k q acc sp hk he hi ih l q' hr
  rw[goS_ok he hk hi] at hr;rw[goS_ok (fun ⟨a,b⟩=>he ⟨a,Classical.byContradiction fun hn=>h.hasnt hk (by decide) hn b⟩) (by omega) (item_mv h hk hi)];exact ih l q' hr
theorem cls_mv {s T:Bs} {P k q:Nat} {S:S4} (h:Mv s T P) (hk:k≤s.length) (hr:cls s k= .ok S q):cls T (P+k)= .ok S (P+q):=by
 unfold cls at hr ⊢;by_cases h1:s[k]?=some 94
 ·have hl:=lt_of_get h1
  rw[if_pos h1] at hr;rw[if_pos (h.has h1)]
  cases h2:goS s (k+1) [] with
  | bad q=>rw[h2] at hr;cases hr
  | ok l q=>
    rw[h2] at hr;rw[show P+k+1=P+(k+1) from rfl,goS_mv h (k+1) [] (by omega) l q h2];injection hr with e1 e2
    subst e1 e2
    rfl
 ·rw[if_neg h1] at hr
  rw[if_neg (h.hasnt hk (by decide) h1)]
  cases h2:goS s k [] with
  | bad q=>rw[h2] at hr;cases hr
  | ok l q=>
    rw[h2] at hr;rw[goS_mv h k [] hk l q h2];injection hr with e1 e2
    subst e1 e2
    rfl
theorem numb_mv {s T:Bs} {P k:Nat} {l x:Int} (h:Mv s T P) (hr:numb s k l=some x):numb T (P+k) l=some x:=by
 have hk:=(numb_lt hr).1;unfold numb at hr ⊢;rw[h.eq k hk];exact hr
theorem closeB_mv {s T:Bs} {P k q:Nat} {lo hi:Int} {b:Int × Int} (h:Mv s T P) (hr:closeB s k lo hi= .ok b q):closeB T (P+k) lo hi= .ok b (P+q):=by
 unfold closeB at hr ⊢;by_cases h1:s[k]?=some 125
 ·rw[if_pos h1] at hr
  rw[if_pos (h.has h1)];injection hr with e1 e2
  subst e1 e2
  rfl
 ·rw[if_neg h1] at hr;cases hr
theorem bnds_mv {s T:Bs} {P k q:Nat} {b:Int × Int} (h:Mv s T P) (hr:bnds s k= .ok b q):bnds T (P+k)= .ok b (P+q):=by
 unfold bnds at hr ⊢
 cases h1:numb s k 0 with
 | none=>rw[h1] at hr;cases hr
 | some lo=>
   have hk:=(numb_lt h1).1;rw[h1] at hr;rw[numb_mv h h1];dsimp only at hr ⊢;by_cases h2:s[k+1]?=some 44
   ·have hk2:=lt_of_get h2
    rw[if_pos h2] at hr;rw[show P+k+1=P+(k+1) from rfl,if_pos (h.has h2),show P+k+2=P+(k+2) from rfl];by_cases h3:s[k+2]?=some 125
    ·rw[if_pos h3] at hr
     rw[if_pos (h.has h3)];injection hr with e1 e2
     subst e1 e2
     rfl
    ·rw[if_neg h3] at hr
     rw[if_neg (h.hasnt (k:=k+2) (by omega) (by decide) h3)]
     cases h4:numb s (k+2) lo with
     | none=>rw[h4] at hr;cases hr
     | some hi=>
       rw[h4] at hr;rw[numb_mv h h4];exact closeB_mv (k:=k+3) h hr
   ·rw[if_neg h2] at hr
    rw[show P+k+1=P+(k+1) from rfl,if_neg (h.hasnt (k:=k+1) (by omega) (by decide) h2)];exact closeB_mv (k:=k+1) h hr
def MvR (s:Bs) (P m:Nat) (rd RD:Rd):Prop:=∀ k g g2 x q g1,k<s.length→s.length - k≤m→rd k g= .ok x q g1→∃ x' g1',RD (P+k) g2= .ok x' (P+q) g1'∧unN x'=unN x
def MvE (s:Bs) (P m:Nat) (rd RD:Rd):Prop:=∀ k g g2 x q g1,k≤s.length→s.length - k≤m→rd k g= .ok x q g1→∃ x' g1',RD (P+k) g2= .ok x' (P+q) g1'∧unN x'=unN x
theorem atomR_mv {s T:Bs} {P m:Nat} {grp GRP:Rd} (h:Mv s T P) (hg:MvR s P m grp GRP):MvR s P m (atomR grp s) (atomR GRP T):=by
 intro k g g2 x q g1 hk hm hr;have hle:k≤s.length:=by omega
 unfold atomR at hr ⊢;by_cases h1:s[k]?=some 94
 ·rw[if_pos h1] at hr
  rw[if_pos (h.has h1)];injection hr with e1 e2;subst e1 e2
  exact⟨_,_,rfl,rfl⟩
 rw[if_neg h1] at hr;rw[if_neg (h.hasnt hle (by decide) h1)];by_cases h2:s[k]?=some 36
 ·rw[if_pos h2] at hr
  rw[if_pos (h.has h2)];injection hr with e1 e2;subst e1 e2
  exact⟨_,_,rfl,rfl⟩
 rw[if_neg h2] at hr;rw[if_neg (h.hasnt hle (by decide) h2)];by_cases h3:s[k]?=some 46
 ·rw[if_pos h3] at hr
  rw[if_pos (h.has h3)];injection hr with e1 e2;subst e1 e2
  exact⟨_,_,rfl,rfl⟩
 rw[if_neg h3] at hr;rw[if_neg (h.hasnt hle (by decide) h3)];by_cases h4:s[k]?=some 40
 ·rw[if_pos h4] at hr
  rw[if_pos (h.has h4)];exact hg k g g2 x q g1 hk hm hr
 rw[if_neg h4] at hr;rw[if_neg (h.hasnt hle (by decide) h4)];by_cases h5:s[k]?=some 91
 ·rw[if_pos h5] at hr
  rw[if_pos (h.has h5)]
  cases hc:cls s (k+1) with
  | bad p=>rw[hc] at hr;cases hr
  | ok S p=>
    rw[hc] at hr;rw[show P+k+1=P+(k+1) from rfl,cls_mv h (by omega) hc];injection hr with e1 e2;subst e1 e2
    exact⟨_,_,rfl,rfl⟩
 rw[if_neg h5] at hr;rw[if_neg (h.hasnt hle (by decide) h5)]
 cases hc:rb sgA s k with
 | bad p=>rw[hc] at hr;cases hr
 | ok S p=>
   rw[hc] at hr;rw[rb_mv h hc];injection hr with e1 e2;subst e1 e2
   exact⟨_,_,rfl,rfl⟩
theorem tailP_mv {s T:Bs} {P q p g g1:Nat} {x x' y:Re} (g2:Nat) (h:Mv s T P) (hq:q≤s.length) (hx:unN x'=unN x) (hr:tailP s x q g= .ok y p g1):∃ y',tailP T x' (P+q) g2= .ok y' (P+p) g2∧unN y'=unN y:=by
 unfold tailP at hr ⊢;by_cases h1:s[q]?=some 42
 ·rw[if_pos h1] at hr
  rw[if_pos (h.has h1)];injection hr with e1 e2;subst e1 e2
  exact⟨_,rfl,unN_rRep hx _ _⟩
 rw[if_neg h1] at hr;rw[if_neg (h.hasnt hq (by decide) h1)];by_cases h2:s[q]?=some 43
 ·rw[if_pos h2] at hr
  rw[if_pos (h.has h2)];injection hr with e1 e2;subst e1 e2
  exact⟨_,rfl,unN_rRep hx _ _⟩
 rw[if_neg h2] at hr;rw[if_neg (h.hasnt hq (by decide) h2)];by_cases h3:s[q]?=some 63
 ·rw[if_pos h3] at hr
  rw[if_pos (h.has h3)];injection hr with e1 e2;subst e1 e2
  exact⟨_,rfl,unN_rRep hx _ _⟩
 rw[if_neg h3] at hr;rw[if_neg (h.hasnt hq (by decide) h3)];by_cases h4:s[q]?=some 123
 ·rw[if_pos h4] at hr
  rw[if_pos (h.has h4)]
  cases hc:bnds s (q+1) with
  | bad p=>rw[hc] at hr;cases hr
  | ok b p=>
    rw[hc] at hr;rw[show P+q+1=P+(q+1) from rfl,bnds_mv h hc];injection hr with e1 e2;subst e1 e2
    exact⟨_,rfl,unN_rRep hx _ _⟩
 rw[if_neg h4] at hr;rw[if_neg (h.hasnt hq (by decide) h4)];injection hr with e1 e2;subst e1 e2
 exact⟨_,rfl,hx⟩
theorem pieceC_mv {s T:Bs} {P m:Nat} {grp GRP:Rd} (h:Mv s T P) (hgd:Good s grp) (hg:MvR s P m grp GRP):MvR s P m (pieceC grp s) (pieceC GRP T):=by
 intro k g g2 x q g1 hk hm hr;unfold pieceC at hr ⊢
 rcases ha:atomR grp s k g with ⟨q1,e⟩ | ⟨y,q1,ga⟩
 ·rw[ha] at hr;cases hr
 ·have hb:=(atomR_good hgd k g hk).2 y q1 ga ha
  rw[ha] at hr;obtain⟨y',ga',e1,e2⟩:=atomR_mv h hg k g g2 y q1 ga hk hm ha;rw[e1];dsimp only at hr ⊢;rw[unN_rep e2];by_cases hp:rep y=true
  ·rw[if_pos hp] at hr ⊢
   obtain⟨z,h1,h2⟩:=tailP_mv ga' h hb.2 e2 hr;exact⟨z,ga',h1,h2⟩
  ·rw[if_neg hp] at hr ⊢
   injection hr with a b;subst a b
   exact⟨_,_,rfl,e2⟩
theorem rowL_mv {s T:Bs} {P m:Nat} {pc PC:Rd} (h:Mv s T P) (hgd:Good s pc) (hp:MvR s P m pc PC):∀ (n k g g2:Nat) (acc acc' l:List Re) (q g1:Nat),s.length - k<n→k≤s.length→s.length - k≤m→unNL acc'=unNL acc→
  rowL pc s k g acc= .ok l q g1→∃ l' g1',rowL PC T (P+k) g2 acc'= .ok l' (P+q) g1'∧unNL l'=unNL l
 | 0,k,g,g2,acc,acc',l,q,g1,hn,hk,hm,ha,hr=>by omega
 | n+1,k,g,g2,acc,acc',l,q,g1,hn,hk,hm,ha,hr=>by
   have hl:=h.len
   cases hs:stops s k with
   | true=>
     rw[rowL_end hs] at hr;rw[rowL_end ((h.stops hk).trans hs)];injection hr with a b;subst a b
     exact⟨_,_,rfl,ha⟩
   | false=>
     have hk':=not_stops hs
     rcases hc:pc k g with ⟨q1,e⟩ | ⟨x,q1,ga⟩
     ·rw[rowL_bad hs hc] at hr;cases hr
     ·have hb:=(hgd k g hk').2 x q1 ga hc
      rw[rowL_ok hs hc hb] at hr;obtain⟨x',ga',e1,e2⟩:=hp k g g2 x q1 ga hk' hm hc;rw[rowL_ok ((h.stops hk).trans hs) e1 ⟨by omega,by omega⟩];exact rowL_mv h hgd hp n q1 ga ga' _ _ l q g1 (by omega) hb.2 (by omega) (unNL_snoc ha e2) hr
theorem rowOf_mv {s T:Bs} {P m:Nat} {pc PC:Rd} (h:Mv s T P) (hgd:Good s pc) (hp:MvR s P m pc PC):MvE s P m (rowOf pc s) (rowOf PC T):=by
 intro k g g2 x q g1 hk hm hr;unfold rowOf at hr ⊢
 rcases ha:rowL pc s k g [] with ⟨q1,e⟩ | ⟨l,q1,ga⟩
 ·rw[ha] at hr;cases hr
 ·rw[ha] at hr
  obtain⟨l',ga',e1,e2⟩:=rowL_mv h hgd hp (s.length - k+1) k g g2 [] [] l q1 ga (by omega) hk hm rfl ha;rw[e1];injection hr with a b;subst a b
  exact⟨_,_,rfl,unN_row e2⟩
theorem altL_mv {s T:Bs} {P m:Nat} {rw_ RW:Rd} (h:Mv s T P) (hgd:GoodE s rw_) (hp:MvE s P m rw_ RW):∀ (n k g g2:Nat) (acc acc' l:List Re) (q g1:Nat),s.length - k<n→k≤s.length→s.length - k≤m→unNL acc'=unNL acc→
  altL rw_ s k g acc= .ok l q g1→∃ l' g1',altL RW T (P+k) g2 acc'= .ok l' (P+q) g1'∧unNL l'=unNL l
 | 0,k,g,g2,acc,acc',l,q,g1,hn,hk,hm,ha,hr=>by omega
 | n+1,k,g,g2,acc,acc',l,q,g1,hn,hk,hm,ha,hr=>by
   have hl:=h.len
   rcases hc:rw_ k g with ⟨q1,e⟩ | ⟨x,q1,ga⟩
   ·rw[altL_bad hc] at hr;cases hr
   ·have hb:=(hgd k g hk).2 x q1 ga hc
    obtain⟨x',ga',e1,e2⟩:=hp k g g2 x q1 ga hk hm hc;by_cases h1:s[q1]?=some 124
    ·have hq:=lt_of_get h1
     rw[altL_ok hc h1 hb.1] at hr;rw[altL_ok e1 (h.has h1) (by omega),show P+q1+1=P+(q1+1) from rfl];exact altL_mv h hgd hp n (q1+1) ga ga' _ _ l q g1 (by omega) (by omega) (by omega) (unNL_snoc ha e2) hr
    ·rw[altL_end hc h1] at hr
     rw[altL_end e1 (h.hasnt hb.2 (by decide) h1)];injection hr with a b;subst a b
     exact⟨_,_,rfl,unNL_snoc ha e2⟩
theorem altOf_mv {s T:Bs} {P m:Nat} {rw_ RW:Rd} (h:Mv s T P) (hgd:GoodE s rw_) (hp:MvE s P m rw_ RW):MvE s P m (altOf rw_ s) (altOf RW T):=by
 intro k g g2 x q g1 hk hm hr;unfold altOf at hr ⊢
 rcases ha:altL rw_ s k g [] with ⟨q1,e⟩ | ⟨l,q1,ga⟩
 ·rw[ha] at hr;cases hr
 ·rw[ha] at hr
  obtain⟨l',ga',e1,e2⟩:=altL_mv h hgd hp (s.length - k+1) k g g2 [] [] l q1 ga (by omega) hk hm rfl ha;rw[e1];injection hr with a b;subst a b
  exact⟨_,_,rfl,unN_alt e2⟩
theorem exOf_mv {s T:Bs} {P m M D:Nat} (h:Mv s T P) (hp:MvR s P m (grpM (fun grp=>pieceC grp s) s M) (grpM (fun grp=>pieceC grp T) T D)):MvE s P m (exC s M) (exC T D):=
 altOf_mv h (rowOf_good (pieceC_good (grpC_good s M))) (rowOf_mv h (pieceC_good (grpC_good s M)) (pieceC_mv h (grpC_good s M) hp))
theorem grpC_mv {s T:Bs} {P:Nat} (h:Mv s T P):∀ M m D,m≤D→MvR s P m (grpM (fun grp=>pieceC grp s) s M) (grpM (fun grp=>pieceC grp T) T D)
 | 0,m,D,hD=>by intro k g g2 x q g1 hk hm hr;cases hr
 | M+1,m,D,hD=>by
   intro k g g2 x q g1 hk hm hr;obtain⟨m',rfl⟩:∃ m',m=m'+1:=⟨m - 1,by omega⟩;obtain⟨D',rfl⟩:∃ D',D=D'+1:=⟨D - 1,by omega⟩;have hx:MvE s P m' (exC s M) (exC T D'):=exOf_mv h (grpC_mv h M m' D' (by omega));rw[grpM_succ] at hr ⊢;unfold grpR at hr ⊢
   rcases ha:exM (fun grp=>pieceC grp s) s M (k+1) (g+1) with ⟨q1,e⟩ | ⟨y,q1,ga⟩
   ·rw[ha] at hr;cases hr
   ·rw[ha] at hr
    obtain⟨y',ga',e1,e2⟩:=hx (k+1) (g+1) (g2+1) y q1 ga (by omega) (by omega) ha;have e1':exM (fun grp=>pieceC grp T) T D' (P+k+1) (g2+1)= .ok y' (P+q1) ga':=e1;rw[e1'];dsimp only at hr ⊢;by_cases h1:s[q1]?=some 41
    ·rw[if_pos h1] at hr
     rw[if_pos (h.has h1)];injection hr with a b;subst a b
     exact⟨_,_,rfl,unN_rGrp e2 _ _⟩
    ·rw[if_neg h1] at hr;cases hr
theorem exC_mv {s T:Bs} {P M m D:Nat} (h:Mv s T P) (hD:m≤D):MvE s P m (exC s M) (exC T D):=exOf_mv h (grpC_mv h M m D hD)
theorem parse_mv {s T:Bs} {P D:Nat} {x:Re} (g:Nat) (hx:parseE s=(some x,0,0)) (h:Mv s T P) (hD:s.length≤D):∃ x' g',exC T D P g= .ok x' (P+s.length) g'∧unN x'=unN x:=by
 unfold parseE at hx;by_cases h2:200<s.length
 ·rw[if_pos h2] at hx;cases hx
 ·rw[if_neg h2] at hx
  rcases ha:exC s 64 0 0 with ⟨q,e⟩ | ⟨y,q,ga⟩
  ·rw[ha] at hx;cases hx
  ·rw[ha] at hx
   dsimp only at hx;by_cases hq:q<s.length
   ·rw[if_pos hq] at hx;cases hx
   ·rw[if_neg hq] at hx
    have hb:=(altOf_good (rowOf_good (pieceC_good (grpC_good s 64))) 0 0 (by omega)).2 y q ga ha;obtain rfl:q=s.length:=by omega
    injection hx with e1 _
    injection e1 with e1
    subst e1;exact exC_mv h hD 0 0 g y _ ga (by omega) (by omega) ha
theorem group_mv {a T:Bs} {k D:Nat} {x:Re} (g:Nat) (hx:parseE a=(some x,0,0)) (h0:T[k]?=some 40) (h:Mv a T (k+1)) (hD:a.length<D):
  ∃ x' g',pieceC (grpM (fun grp=>pieceC grp T) T D) T k g=tailP T (rGrp x' (num (g+1))) (k+2+a.length) g'∧unN x'=unN x:=by
 obtain⟨D',rfl⟩:∃ D',D=D'+1:=⟨D - 1,by omega⟩;obtain⟨x',g',e1,e2⟩:=parse_mv (D:=D') (g+1) hx h (by omega);refine⟨x',g',?_,e2⟩;have e1':exM (fun grp=>pieceC grp T) T D' (k+1) (g+1)= .ok x' (k+1+a.length) g':=e1
 have ha:atomR (grpM (fun grp=>pieceC grp T) T (D'+1)) T k g= .ok (rGrp x' (num (g+1))) (k+2+a.length) g':=by
  unfold atomR;rw[h0,if_neg (by decide),if_neg (by decide),if_neg (by decide),if_pos rfl,grpM_succ];unfold grpR;rw[e1'];dsimp only;rw[if_pos h.fin,show k+1+a.length+1=k+2+a.length by omega]
 rw[pieceC,ha]
 rfl
theorem mv_of {a T p u:Bs} (h:T=p++40::(a++41::u)):Mv a T (p.length+1)∧T[p.length]?=some 40∧(∀ j,T[p.length+2+a.length+j]?=u[j]?)∧T.length=p.length+2+a.length+u.length:=by
 have hat:∀ j,T[p.length+j]?=(40::(a++41::u))[j]?:=fun j=>by
  rw[h,List.getElem?_append_right (by omega)]
  congr 1;omega
 have hat1:∀ j,T[p.length+1+j]?=(a++41::u)[j]?:=fun j=>by
  rw[show p.length+1+j=p.length+(j+1) by omega,hat];rfl
 refine⟨⟨fun i hi=>?_,?_⟩,?_,fun j=>?_,?_⟩
 ·rw[hat1,List.getElem?_append_left hi]
 ·rw[hat1,List.getElem?_append_right (Nat.le_refl _)];simp
 ·have:=hat 0;simpa using this
 ·rw[show p.length+2+a.length+j=p.length+1+(a.length+(j+1)) by omega,hat1,List.getElem?_append_right (by omega)]
  rw[show a.length+(j+1) - a.length=j+1 by omega];rfl
 ·rw[h];simp;omega
def Seg (T:Bs) (k q:Nat) (z:Re):Prop:=stops T k=false∧k<q∧q≤T.length∧∀ g,∃ z' g',pieceC (grpM (fun grp=>pieceC grp T) T 64) T k g= .ok z' q g'∧unN z'=unN z
def RowTo (T:Bs) (k q:Nat) (l:List Re):Prop:=k≤q∧q≤T.length∧∀ g acc acc',unNL acc'=unNL acc→∃ l' g',rowL (pieceC (grpM (fun grp=>pieceC grp T) T 64) T) T k g acc'= .ok l' q g'∧unNL l'=unNL (acc++l)
theorem RowTo.nil {T:Bs} {k:Nat} (h:stops T k=true) (hk:k≤T.length):RowTo T k k []:=by
 refine⟨Nat.le_refl _,hk,fun g acc acc' ha=>?_⟩;rw[rowL_end h,List.append_nil];exact⟨_,_,rfl,ha⟩
theorem RowTo.cons {T:Bs} {k q r:Nat} {z:Re} {l:List Re} (h:Seg T k q z) (hr:RowTo T q r l):RowTo T k r (z::l):=by
 obtain⟨h1,h2,h3,h4⟩:=h;refine⟨by have:=hr.1;omega,hr.2.1,fun g acc acc' ha=>?_⟩;obtain⟨z',g',e1,e2⟩:=h4 g;rw[rowL_ok h1 e1 ⟨h2,h3⟩];obtain⟨l',g2,e3,e4⟩:=hr.2.2 g' (acc++[z]) (acc'++[z']) (unNL_snoc ha e2);exact⟨l',g2,e3,by rw[e4,List.append_assoc];rfl⟩
theorem RowTo.row {T:Bs} {k q:Nat} {l:List Re} (h:RowTo T k q l) (g:Nat):∃ y g',rowOf (pieceC (grpM (fun grp=>pieceC grp T) T 64) T) T k g= .ok y q g'∧unN y=unN (mkRow l):=by
 obtain⟨l',g',e1,e2⟩:=h.2.2 g [] [] rfl;unfold rowOf;rw[e1];exact⟨_,_,rfl,unN_row e2⟩
theorem parse_ex {T:Bs} {y r:Re} {g':Nat} (hl:T.length≤200) (h:exC T 64 0 0= .ok y T.length g') (hy:unN y=unN r):∃ r',parseE T=(some r',0,0)∧unN r'=unN r:=by
 unfold parseE;rw[if_neg (by omega),h];dsimp only;rw[if_neg (by omega)];exact⟨_,rfl,hy⟩
theorem parse_row {T:Bs} {l:List Re} (hl:T.length≤200) (h:RowTo T 0 T.length l):∃ r,parseE T=(some r,0,0)∧unN r=unN (mkRow l):=by
 obtain⟨y,g',e1,e2⟩:=h.row 0;refine parse_ex (g':=g') hl ?_ e2;show altOf _ T 0 0=_;unfold altOf;rw[altL_end e1 (by rw[List.getElem?_eq_none (Nat.le_refl _)];simp)]
 rfl
theorem parse_alt {T:Bs} {q:Nat} {l l2:List Re} (hl:T.length≤200) (h:RowTo T 0 q l) (hq:T[q]?=some 124) (h2:RowTo T (q+1) T.length l2):∃ r,parseE T=(some r,0,0)∧unN r=unN (mkAlt [mkRow l,mkRow l2]):=by
 obtain⟨y,g',e1,e2⟩:=h.row 0;obtain⟨z,g2,e3,e4⟩:=h2.row g';refine parse_ex (y:=mkAlt [y,z]) (g':=g2) hl ?_ (unN_alt (by simp only[unNL_map,List.map_cons,List.map_nil,e2,e4]));show altOf _ T 0 0=_;unfold altOf;rw[altL_ok e1 hq (Nat.zero_le _),altL_end e3 (by rw[List.getElem?_eq_none (Nat.le_refl _)];simp)]
 rfl
theorem stops_40 {T:Bs} {k:Nat} (h:T[k]?=some 40):stops T k=false:=by unfold stops;rw[h];rfl
theorem stops_none {T:Bs}:stops T T.length=true:=by unfold stops;rw[List.getElem?_eq_none (Nat.le_refl _)]
theorem stops_124 {T:Bs} {k:Nat} (h:T[k]?=some 124):stops T k=true:=by unfold stops;rw[h];rfl
theorem seg_plain {a T p u:Bs} {x:Re} (h:T=p++40::(a++41::u)) (hx:parseE a=(some x,0,0)) (ha:a.length<64) (hu:∀ c∈sgR,u[0]?≠some c):Seg T p.length (p.length+2+a.length) (rGrp x 0):=by
 obtain⟨h1,h2,h3,h4⟩:=mv_of h;refine⟨stops_40 h2,by omega,by omega,fun g=>?_⟩;obtain⟨x',g',e1,e2⟩:=group_mv (D:=64) g hx h2 h1 ha;rw[e1];have hn:∀ c∈sgR,T[p.length+2+a.length]?≠some c:=fun c hc=>by have:=h3 0;rw[Nat.add_zero] at this;rw[this];exact hu c hc
 unfold tailP;rw[if_neg (hn 42 (by decide)),if_neg (hn 43 (by decide)),if_neg (hn 63 (by decide)),if_neg (hn 123 (by decide))];exact⟨_,_,rfl,unN_rGrp e2 _ _⟩
theorem seg_star {a T p u:Bs} {x:Re} (h:T=p++40::(a++41::42::u)) (hx:parseE a=(some x,0,0)) (ha:a.length<64):Seg T p.length (p.length+3+a.length) (rRep (rGrp x 0) 0 (-1)):=by
 obtain⟨h1,h2,h3,h4⟩:=mv_of h;rw[List.length_cons] at h4;refine⟨stops_40 h2,by omega,by omega,fun g=>?_⟩;obtain⟨x',g',e1,e2⟩:=group_mv (D:=64) g hx h2 h1 ha;rw[e1];have hn:T[p.length+2+a.length]?=some 42:=by have:=h3 0;rw[Nat.add_zero] at this;rw[this];rfl
 unfold tailP;rw[if_pos hn,show p.length+2+a.length+1=p.length+3+a.length by omega];exact⟨_,_,rfl,unN_rRep (unN_rGrp e2 _ _) _ _⟩
theorem seg_once {a T p u:Bs} {x:Re} (h:T=p++40::(a++41::63::u)) (hx:parseE a=(some x,0,0)) (ha:a.length<64):Seg T p.length (p.length+3+a.length) (rRep (rGrp x 0) 0 1):=by
 obtain⟨h1,h2,h3,h4⟩:=mv_of h;rw[List.length_cons] at h4;refine⟨stops_40 h2,by omega,by omega,fun g=>?_⟩;obtain⟨x',g',e1,e2⟩:=group_mv (D:=64) g hx h2 h1 ha;rw[e1];have hn:T[p.length+2+a.length]?=some 63:=by have:=h3 0;rw[Nat.add_zero] at this;rw[this];rfl
 unfold tailP;rw[if_neg (by rw[hn];decide),if_neg (by rw[hn];decide),if_pos hn,show p.length+2+a.length+1=p.length+3+a.length by omega];exact⟨_,_,rfl,unN_rRep (unN_rGrp e2 _ _) _ _⟩
theorem seg_23 {a T p:Bs} {x:Re} (h:T=p++40::(a++41::[123,50,44,51,125])) (hx:parseE a=(some x,0,0)) (ha:a.length<64):Seg T p.length (p.length+7+a.length) (rRep (rGrp x 0) 2 3):=by
 obtain⟨h1,h2,h3,h4⟩:=mv_of h;have h4':T.length=p.length+2+a.length+5:=h4;refine⟨stops_40 h2,by omega,by omega,fun g=>?_⟩;obtain⟨x',g',e1,e2⟩:=group_mv (D:=64) g hx h2 h1 ha;rw[e1];obtain⟨q,hq⟩:∃ q,q=p.length+2+a.length:=⟨_,rfl⟩;rw[←hq] at h3 ⊢;have n0:T[q]?=some 123:=h3 0;have n1:T[q+1]?=some 50:=h3 1;have n2:T[q+1+1]?=some 44:=h3 2;have n3:T[q+1+2]?=some 51:=h3 3;have n4:T[q+1+3]?=some 125:=h3 4
 have hb:bnds T (q+1)= .ok (2,3) (q+5):=by
  have a1:numb T (q+1) 0=some 2:=by unfold numb;rw[n1];rfl
  have a2:numb T (q+1+2) 2=some 3:=by unfold numb;rw[n3];rfl
  unfold bnds;rw[a1];dsimp only;rw[if_pos n2,if_neg (by rw[n3];decide),a2];dsimp only;unfold closeB;rw[if_pos n4]
 unfold tailP;rw[if_neg (by rw[n0];decide),if_neg (by rw[n0];decide),if_neg (by rw[n0];decide),if_pos n0,hb,show p.length+7+a.length=q+5 by omega];exact⟨_,_,rfl,unN_rRep (unN_rGrp e2 _ _) _ _⟩
theorem no_sign {u:Bs} {d:UInt8} (h:u[0]?=some d) (hd:d ∉ sgR):∀ c∈sgR,u[0]?≠some c:=fun c hc he=>by
 rw[h] at he;injection he with he
 subst he;exact hd hc
def brk (a:Bs):Bs:=40::(a++[41])
theorem brk_len (a:Bs):(brk a).length=a.length+2:=by unfold brk;simp
theorem parse_brk {a:Bs} {x:Re} (hx:parseE a=(some x,0,0)) (ha:a.length<64):∃ r,parseE (brk a)=(some r,0,0)∧unN r=unN (rGrp x 0):=by
 have hl:=brk_len a;have s1:=seg_plain (T:=brk a) (p:=[]) (u:=[]) rfl hx ha (by simp);have e:([]:Bs).length+2+a.length=(brk a).length:=by rw[hl];simp;omega
 rw[e] at s1;exact parse_row (by omega) (.cons s1 (.nil stops_none (Nat.le_refl _)))
theorem parse_both {a b:Bs} {x y:Re} (hx:parseE a=(some x,0,0)) (hy:parseE b=(some y,0,0)) (ha:a.length<64) (hb:b.length<64):∃ r,parseE (brk a++brk b)=(some r,0,0)∧unN r=unN (.mk 4 none4 [rGrp x 0,rGrp y 0] 0 0 0):=by
 have hl:=brk_len a;have hl2:=brk_len b;have s1:=seg_plain (T:=brk a++brk b) (p:=[]) (u:=brk b) (by simp[brk]) hx ha (no_sign (d:=40) rfl (by decide));have s2:=seg_plain (T:=brk a++brk b) (p:=brk a) (u:=[]) rfl hy hb (by simp);have e1:([]:Bs).length+2+a.length=(brk a).length:=by rw[hl];simp;omega
 have e2:(brk a).length+2+b.length=(brk a++brk b).length:=by simp[hl2];omega
 rw[e1] at s1;rw[e2] at s2;exact parse_row (by simp;omega) (.cons s1 (.cons s2 (.nil stops_none (Nat.le_refl _))))
theorem parse_either {a b:Bs} {x y:Re} (hx:parseE a=(some x,0,0)) (hy:parseE b=(some y,0,0)) (ha:a.length<64) (hb:b.length<64):∃ r,parseE (brk a++124::brk b)=(some r,0,0)∧unN r=unN (.mk 5 none4 [rGrp x 0,rGrp y 0] 0 0 0):=by
 have hl:=brk_len a;have hl2:=brk_len b;have s1:=seg_plain (T:=brk a++124::brk b) (p:=[]) (u:=124::brk b) (by simp[brk]) hx ha (no_sign (d:=124) rfl (by decide));have s2:=seg_plain (T:=brk a++124::brk b) (p:=brk a++[124]) (u:=[]) (by simp[brk]) hy hb (by simp);have e1:([]:Bs).length+2+a.length=(brk a).length:=by rw[hl];simp;omega
 have e2:(brk a++[124]).length+2+b.length=(brk a++124::brk b).length:=by simp[hl2];omega
 have e3:(brk a++[124]).length=(brk a).length+1:=by simp
 rw[e1] at s1;rw[e2,e3] at s2;have hq:(brk a++124::brk b)[(brk a).length]?=some 124:=by rw[List.getElem?_append_right (Nat.le_refl _)];simp
 exact parse_alt (by simp;omega) (.cons s1 (.nil (stops_124 hq) (by simp))) hq (.cons s2 (.nil stops_none (Nat.le_refl _)))
theorem parse_23 {a:Bs} {x:Re} (hx:parseE a=(some x,0,0)) (ha:a.length<64):∃ r,parseE (brk a++[123,50,44,51,125])=(some r,0,0)∧unN r=unN (rRep (rGrp x 0) 2 3):=by
 have hl:=brk_len a;have s1:=seg_23 (T:=brk a++[123,50,44,51,125]) (p:=[]) (by simp[brk]) hx ha;have e1:([]:Bs).length+7+a.length=(brk a++[123,50,44,51,125]).length:=by simp[hl];omega
 rw[e1] at s1;exact parse_row (by simp;omega) (.cons s1 (.nil stops_none (Nat.le_refl _)))
theorem parse_opt {a:Bs} {x:Re} (hx:parseE a=(some x,0,0)) (ha:a.length<64):∃ r,parseE (brk a++[63])=(some r,0,0)∧unN r=unN (rRep (rGrp x 0) 0 1):=by
 have hl:=brk_len a;have s1:=seg_once (T:=brk a++[63]) (p:=[]) (u:=[]) (by simp[brk]) hx ha;have e1:([]:Bs).length+3+a.length=(brk a++[63]).length:=by simp[hl];omega
 rw[e1] at s1;exact parse_row (by simp;omega) (.cons s1 (.nil stops_none (Nat.le_refl _)))
theorem parse_many {a:Bs} {x:Re} (hx:parseE a=(some x,0,0)) (ha:a.length<64):∃ r,parseE (brk a++[42])=(some r,0,0)∧unN r=unN (rRep (rGrp x 0) 0 (-1)):=by
 have hl:=brk_len a;have s1:=seg_star (T:=brk a++[42]) (p:=[]) (u:=[]) (by simp[brk]) hx ha;have e1:([]:Bs).length+3+a.length=(brk a++[42]).length:=by simp[hl];omega
 rw[e1] at s1;exact parse_row (by simp;omega) (.cons s1 (.nil stops_none (Nat.le_refl _)))
theorem parse_thrice {a:Bs} {x:Re} (hx:parseE a=(some x,0,0)) (ha:a.length<64):∃ r,parseE (brk a++(brk a++brk a))=(some r,0,0)∧unN r=unN (.mk 4 none4 [rGrp x 0,rGrp x 0,rGrp x 0] 0 0 0):=by
 have hl:=brk_len a;have s1:=seg_plain (T:=brk a++(brk a++brk a)) (p:=[]) (u:=brk a++brk a) (by simp[brk]) hx ha (no_sign (d:=40) rfl (by decide));have s2:=seg_plain (T:=brk a++(brk a++brk a)) (p:=brk a) (u:=brk a) (by simp[brk]) hx ha (no_sign (d:=40) rfl (by decide));have s3:=seg_plain (T:=brk a++(brk a++brk a)) (p:=brk a++brk a) (u:=[]) (by simp[brk]) hx ha (by simp);have e1:([]:Bs).length+2+a.length=(brk a).length:=by rw[hl];simp;omega
 have e2:(brk a).length+2+a.length=(brk a++brk a).length:=by simp[hl];omega
 have e3:(brk a++brk a).length+2+a.length=(brk a++(brk a++brk a)).length:=by simp[hl];omega
 rw[e1] at s1;rw[e2] at s2;rw[e3] at s3;exact parse_row (by simp;omega) (.cons s1 (.cons s2 (.cons s3 (.nil stops_none (Nat.le_refl _)))))
theorem parse_then {a:Bs} {x:Re} (hx:parseE a=(some x,0,0)) (ha:a.length<64):∃ r,parseE (brk a++(brk a++[42]))=(some r,0,0)∧unN r=unN (.mk 4 none4 [rGrp x 0,rRep (rGrp x 0) 0 (-1)] 0 0 0):=by
 have hl:=brk_len a;have s1:=seg_plain (T:=brk a++(brk a++[42])) (p:=[]) (u:=brk a++[42]) (by simp[brk]) hx ha (no_sign (d:=40) rfl (by decide));have s2:=seg_star (T:=brk a++(brk a++[42])) (p:=brk a) (u:=[]) (by simp[brk]) hx ha;have e1:([]:Bs).length+2+a.length=(brk a).length:=by rw[hl];simp;omega
 have e2:(brk a).length+3+a.length=(brk a++(brk a++[42])).length:=by simp[hl];omega
 rw[e1] at s1;rw[e2] at s2;exact parse_row (by simp;omega) (.cons s1 (.cons s2 (.nil stops_none (Nat.le_refl _))))
def TimesW (R:Nat→Nat→Prop):Nat→Nat→Nat→Prop
 | 0,i,j=>i=j
 | n+1,i,j=>∃ m,R i m∧TimesW R n m j
def TimesL (L:Bs→Prop):Nat→Bs→Prop
 | 0,w=>w=[]
 | n+1,w=>∃ u v,w=u++v∧L u∧TimesL L n v
mutual
def Way (s:Bs) (b e:Bool):Re→Nat→Nat→Prop
 | .mk k S ks lo hi _,i,j=>if k=0 then i=j else if k=1 then (∃ c,s[i]?=some c∧mem S c.toNat=true∧j=i+1)
   else if k=2 then i=j∧i=0∧b=true else if k=3 then i=j∧i=s.length∧e=true
   else if k=5 then WayA s b e ks i j else if k=6 then (∃ n:Nat,lo≤n∧(hi<0∨n≤hi)∧TimesW (WayL s b e ks) n i j) else WayL s b e ks i j
def WayL (s:Bs) (b e:Bool):List Re→Nat→Nat→Prop
 | [],i,j=>i=j
 | r::rs,i,j=>∃ m,Way s b e r i m∧WayL s b e rs m j
def WayA (s:Bs) (b e:Bool):List Re→Nat→Nat→Prop
 | [],_,_=>False
 | r::rs,i,j=>Way s b e r i j∨WayA s b e rs i j
end
mutual
def Lang:Re→Bs→Prop
 | .mk k S ks lo hi _,w=>if k=0 then w=[] else if k=1 then (∃ c,w=[c]∧mem S c.toNat=true)
   else if k=2 then False else if k=3 then False
   else if k=5 then LangA ks w else if k=6 then (∃ n:Nat,lo≤n∧(hi<0∨n≤hi)∧TimesL (LangL ks) n w) else LangL ks w
def LangL:List Re→Bs→Prop
 | [],w=>w=[]
 | r::rs,w=>∃ u v,w=u++v∧Lang r u∧LangL rs v
def LangA:List Re→Bs→Prop
 | [],_=>False
 | r::rs,w=>Lang r w∨LangA rs w
end
theorem langL_ext {l l':List Re} (h:unNL l'=unNL l) (ih:∀ r∈l,∀ r',unN r'=unN r→Lang r'=Lang r):LangL l'=LangL l∧LangA l'=LangA l:=by
 induction l generalizing l' with
 | nil=>
   cases l' with
   | nil=>exact⟨rfl,rfl⟩
   | cons a t=>rw[unNL,unNL] at h;cases h
 | cons r l ihl=>
   cases l' with
   | nil=>rw[unNL,unNL] at h;cases h
   | cons a t=>
     rw[unNL,unNL] at h;injection h with h1 h2
     have e1:=ih r (List.mem_cons_self ..) a h1;obtain⟨e2,e3⟩:=ihl h2 fun r' hr'=>ih r' (List.mem_cons_of_mem _ hr')
     constructor
     ·funext w;rw[LangL,LangL,e1,e2]
     ·funext w;rw[LangA,LangA,e1,e3]
theorem lang_unN (r:Re):∀ r',unN r'=unN r→Lang r'=Lang r:=by
 induction r using Re.ind with
 | h k S ks lo hi n ih=>
   intro r' h;obtain⟨k',S',ks',lo',hi',n'⟩:=r';rw[unN,unN] at h;injection h with h1 h2 h3 h4 h5 _
   subst h1 h2 h4 h5;obtain⟨e1,e2⟩:=langL_ext h3 ih
   funext w
   rw[Lang,Lang,e1,e2]
def cutB (s:Bs) (i j:Nat):Bs:=(s.drop i).take (j - i)
theorem cutB_self (s:Bs) (i:Nat):cutB s i i=[]:=by unfold cutB;simp
theorem cutB_len {s:Bs} {i j:Nat} (h:i≤j) (hj:j≤s.length):(cutB s i j).length=j - i:=by unfold cutB;simp;omega
theorem cutB_app {s:Bs} {i m j:Nat} (h1:i≤m) (h2:m≤j):cutB s i j=cutB s i m++cutB s m j:=by
 unfold cutB;rw[show j - i=(m - i)+(j - m) by omega,List.take_add,List.drop_drop,show i+(m - i)=m by omega]
theorem cutB_split {s u v:Bs} {i j:Nat} (h:i≤j) (hj:j≤s.length) (he:cutB s i j=u++v):i≤i+u.length∧i+u.length≤j∧cutB s i (i+u.length)=u∧cutB s (i+u.length) j=v:=by
 have hl:=congrArg List.length he;rw[cutB_len h hj,List.length_append] at hl;have h2:=cutB_app (s:=s) (i:=i) (m:=i+u.length) (j:=j) (by omega) (by omega);rw[he] at h2;have:=List.append_inj h2 (by rw[cutB_len (by omega) (by omega)];omega);exact⟨by omega,by omega,this.1.symm,this.2.symm⟩
def IsW (s:Bs) (R:Nat→Nat→Prop) (L:Bs→Prop):Prop:=∀ i j,i≤s.length→(R i j ↔ i≤j∧j≤s.length∧L (cutB s i j))
theorem isW_times {s:Bs} {R:Nat→Nat→Prop} {L:Bs→Prop} (h:IsW s R L):∀ n,IsW s (TimesW R n) (TimesL L n)
 | 0=>fun i j hi=>by
   rw[TimesW,TimesL]
   constructor
   ·rintro rfl;exact⟨Nat.le_refl _,hi,cutB_self s i⟩
   ·rintro⟨h1,h2,h3⟩
    have:=cutB_len h1 h2;rw[h3] at this;simp at this;omega
 | n+1=>fun i j hi=>by
   rw[TimesW,TimesL]
   constructor
   ·rintro⟨m,h1,h2⟩
    obtain⟨a1,a2,a3⟩:=(h i m hi).1 h1;obtain⟨b1,b2,b3⟩:=(isW_times h n m j a2).1 h2;exact⟨by omega,b2,_,_,cutB_app a1 b1,a3,b3⟩
   ·rintro⟨h1,h2,u,v,he,h3,h4⟩
    obtain⟨a1,a2,a3,a4⟩:=cutB_split h1 h2 he;exact⟨_,(h i _ hi).2 ⟨a1,by omega,by rw[a3];exact h3⟩,(isW_times h n _ j (by omega)).2 ⟨a2,h2,by rw[a4];exact h4⟩⟩
theorem isW_list {s:Bs}:∀ {l:List Re},(∀ r∈l,IsW s (Way s false false r) (Lang r))→IsW s (WayL s false false l) (LangL l)∧IsW s (WayA s false false l) (LangA l)
 | [],_=>by
   refine⟨fun i j hi=>?_,fun i j hi=>?_⟩
   ·rw[WayL,LangL]
    constructor
    ·rintro rfl;exact⟨Nat.le_refl _,hi,cutB_self s i⟩
    ·rintro⟨h1,h2,h3⟩
     have:=cutB_len h1 h2;rw[h3] at this;simp at this;omega
   ·rw[WayA,LangA];simp
 | r::l,h=>by
   have hr:=h r (List.mem_cons_self ..);obtain⟨i1,i2⟩:=isW_list (l:=l) fun x hx=>h x (List.mem_cons_of_mem _ hx)
   refine⟨fun i j hi=>?_,fun i j hi=>?_⟩
   ·rw[WayL,LangL]
    constructor
    ·rintro⟨m,h1,h2⟩
     obtain⟨a1,a2,a3⟩:=(hr i m hi).1 h1;obtain⟨b1,b2,b3⟩:=(i1 m j a2).1 h2;exact⟨by omega,b2,_,_,cutB_app a1 b1,a3,b3⟩
    ·rintro⟨h1,h2,u,v,he,h3,h4⟩
     obtain⟨a1,a2,a3,a4⟩:=cutB_split h1 h2 he;exact⟨_,(hr i _ hi).2 ⟨a1,by omega,by rw[a3];exact h3⟩,(i1 _ j (by omega)).2 ⟨a2,h2,by rw[a4];exact h4⟩⟩
   ·rw[WayA,LangA,hr i j hi,i2 i j hi]
    constructor
    ·rintro(⟨a,b,c⟩ | ⟨a,b,c⟩)
     ·exact⟨a,b,.inl c⟩
     ·exact⟨a,b,.inr c⟩
    ·rintro⟨a,b,c | c⟩
     ·exact .inl ⟨a,b,c⟩
     ·exact .inr ⟨a,b,c⟩
theorem way_lang (s:Bs) (r:Re):IsW s (Way s false false r) (Lang r):=by
 induction r using Re.ind with
 | h k S ks lo hi n ih=>
   obtain⟨h1,h2⟩:=isW_list (s:=s) ih;intro i j hi;rw[Way,Lang];by_cases k0:k=0
   ·rw[if_pos k0,if_pos k0]
    constructor
    ·rintro rfl;exact⟨Nat.le_refl _,hi,cutB_self s i⟩
    ·rintro⟨h1,h2,h3⟩
     have:=cutB_len h1 h2;rw[h3] at this;simp at this;omega
   rw[if_neg k0,if_neg k0];by_cases k1:k=1
   ·rw[if_pos k1,if_pos k1]
    constructor
    ·rintro⟨c,h1,h2,rfl⟩
     have hl:=lt_of_get h1;refine⟨by omega,by omega,c,?_,h2⟩;unfold cutB;rw[show i+1 - i=1 by omega,List.drop_eq_getElem_cons hl];rw[List.getElem?_eq_getElem hl] at h1;injection h1 with h1
     rw[h1];rfl
    ·rintro⟨h1,h2,c,h3,h4⟩
     have hl:=cutB_len h1 h2;rw[h3] at hl;simp at hl;have hi':i<s.length:=by omega
     refine⟨c,?_,h4,by omega⟩;unfold cutB at h3;rw[show j - i=1 by omega,List.drop_eq_getElem_cons hi'] at h3;rw[List.getElem?_eq_getElem hi'];have h5:[s[i]]=[c]:=h3;injection h5 with h5
     rw[h5]
   rw[if_neg k1,if_neg k1];by_cases k2:k=2
   ·rw[if_pos k2,if_pos k2];simp
   rw[if_neg k2,if_neg k2];by_cases k3:k=3
   ·rw[if_pos k3,if_pos k3];simp
   rw[if_neg k3,if_neg k3];by_cases k5:k=5
   ·rw[if_pos k5,if_pos k5];exact h2 i j hi
   rw[if_neg k5,if_neg k5];by_cases k6:k=6
   ·rw[if_pos k6,if_pos k6]
    constructor
    ·rintro⟨n,a,b,c⟩
     obtain⟨x,y,z⟩:=(isW_times h1 n i j hi).1 c;exact⟨x,y,n,a,b,z⟩
    ·rintro⟨x,y,n,a,b,z⟩
     exact⟨n,a,b,(isW_times h1 n i j hi).2 ⟨x,y,z⟩⟩
   rw[if_neg k6,if_neg k6];exact h1 i j hi
theorem way_all (s:Bs) (r:Re):Way s false false r 0 s.length ↔ Lang r s:=by
 have:=way_lang s r 0 s.length (Nat.zero_le _);rw[this];have e:cutB s 0 s.length=s:=by unfold cutB;simp
 rw[e];simp
theorem lang_one (r:Re):LangL [r]=Lang r:=by
 funext w
 rw[LangL];refine propext ⟨?_,fun h=>⟨w,[],by simp,h,by rw[LangL]⟩⟩;rintro⟨u,v,rfl,h1,h2⟩;rw[LangL] at h2;subst h2;rw[List.append_nil];exact h1
theorem lang_cat (l:List Re):Lang (.mk 4 none4 l 0 0 0)=LangL l:=by funext w;rw[Lang];simp
theorem lang_alt2 (a b:Re) (w:Bs):Lang (.mk 5 none4 [a,b] 0 0 0) w ↔ Lang a w∨Lang b w:=by
 rw[Lang,LangA,LangA,LangA];simp
theorem langL_cons (r:Re) (l:List Re) (w:Bs):LangL (r::l) w ↔ ∃ i,i≤w.length∧Lang r (w.take i)∧LangL l (w.drop i):=by
 rw[LangL]
 constructor
 ·rintro⟨u,v,rfl,h1,h2⟩
  refine⟨u.length,by simp,?_,?_⟩
  ·rw[List.take_left];exact h1
  ·rw[List.drop_left];exact h2
 ·rintro⟨i,_,h1,h2⟩
  exact⟨_,_,(List.take_append_drop i w).symm,h1,h2⟩
theorem lang_cat2 (a b:Re) (w:Bs):Lang (.mk 4 none4 [a,b] 0 0 0) w ↔ ∃ i,i≤w.length∧Lang a (w.take i)∧Lang b (w.drop i):=by
 rw[lang_cat,langL_cons];simp only[lang_one]
theorem lang_rep (r:Re) (lo hi:Int) (w:Bs):Lang (rRep r lo hi) w ↔ ∃ n:Nat,lo≤n∧(hi<0∨n≤hi)∧TimesL (Lang r) n w:=by
 unfold rRep;rw[Lang,lang_one];simp
theorem timesL_cat (r:Re):∀ n,TimesL (Lang r) n=LangL (List.replicate n r)
 | 0=>by funext w;rw[TimesL,List.replicate_zero,LangL]
 | n+1=>by funext w;rw[TimesL,timesL_cat r n,List.replicate_succ,LangL]
theorem lang_23 (r:Re) (w:Bs):Lang (rRep r 2 3) w ↔ Lang (.mk 4 none4 [r,r] 0 0 0) w∨Lang (.mk 4 none4 [r,r,r] 0 0 0) w:=by
 rw[lang_rep,lang_cat,lang_cat]
 constructor
 ·rintro⟨n,h1,h2,h3⟩
  rw[timesL_cat] at h3;have h23:n=2∨n=3:=by omega
  rcases h23 with rfl | rfl
  ·exact .inl h3
  ·exact .inr h3
 ·rintro(h | h)
  ·exact⟨2,by omega,by omega,by rw[timesL_cat];exact h⟩
  ·exact⟨3,by omega,by omega,by rw[timesL_cat];exact h⟩
theorem lang_opt (r:Re) (w:Bs):Lang (rRep r 0 1) w ↔ w=[]∨Lang r w:=by
 rw[lang_rep]
 constructor
 ·rintro⟨n,h1,h2,h3⟩
  rw[timesL_cat] at h3;have h01:n=0∨n=1:=by omega
  rcases h01 with rfl | rfl
  ·left;rw[List.replicate_zero,LangL] at h3;exact h3
  ·right;rw[←lang_one];exact h3
 ·rintro(h | h)
  ·exact⟨0,by omega,by omega,h⟩
  ·exact⟨1,by omega,by omega,by rw[timesL_cat];show LangL [r] w;rw[lang_one];exact h⟩
theorem lang_many (r:Re) (w:Bs):Lang (rRep r 0 (-1)) w ↔ w=[]∨Lang (.mk 4 none4 [r,rRep r 0 (-1)] 0 0 0) w:=by
 rw[lang_cat]
 constructor
 ·intro h
  rw[lang_rep] at h;obtain⟨n,h1,h2,h3⟩:=h
  cases n with
  | zero=>left;exact h3
  | succ n=>
    right
    rw[TimesL] at h3;obtain⟨u,v,rfl,h4,h5⟩:=h3;rw[LangL];exact⟨u,v,rfl,h4,by rw[lang_one,lang_rep];exact⟨n,by omega,by omega,h5⟩⟩
 ·rintro(h | h)
  ·rw[lang_rep];exact⟨0,by omega,by omega,h⟩
  ·rw[LangL] at h
   obtain⟨u,v,rfl,h1,h2⟩:=h;rw[lang_one,lang_rep] at h2;obtain⟨n,_,_,h3⟩:=h2;rw[lang_rep];exact⟨n+1,by omega,by omega,u,v,rfl,h1,h3⟩
def Re.lo:Re→Int | .mk _ _ _ lo _ _=>lo
def Re.hi:Re→Int | .mk _ _ _ _ hi _=>hi
def Re.set:Re→S4 | .mk _ S _ _ _ _=>S
def cntQ (r:Re):Bool:=decide (r.kind=6) && (decide (1<r.hi) || (decide (r.hi<0) && decide (1<r.lo)))
mutual
def cntE:Re→Nat
 | .mk k S ks lo hi n=>(if cntQ (.mk k S ks lo hi n)=true then 1 else 0)+cntL ks
def cntL:List Re→Nat
 | []=>0
 | r::rs=>cntE r+cntL rs
end
mutual
def emptyE (b e:Bool):Re→Bool
 | .mk k _ ks lo _ _=>if k=0 then true else if k=2 then b else if k=3 then e else if k=4 then allE b e ks else if k=6 then decide (lo=0) || anyE b e ks else anyE b e ks
def allE (b e:Bool):List Re→Bool
 | []=>true
 | r::rs=>emptyE b e r && allE b e rs
def anyE (b e:Bool):List Re→Bool
 | []=>false
 | r::rs=>emptyE b e r || anyE b e rs
end
structure Nd where
 r:Re
 kids:List Nat
 par:Nat
 nx:Nat
 cn:Nat
def kidsAt:Nat→List Re→List Nat
 | _,[]=>[]
 | n,r::rs=>n::kidsAt (n+sizeE r) rs
mutual
def tabE:Re→Nat→Nat→Nat→Nat→List Nd
 | .mk k S ks lo hi g,n,p,nx,c=>⟨.mk k S ks lo hi g,kidsAt (n+1) ks,p,nx,if cntQ (.mk k S ks lo hi g)=true then c+1 else 0⟩::
  tabL ks (decide (k=4)) (n+1) n (if cntQ (.mk k S ks lo hi g)=true then c+1 else c)
def tabL:List Re→Bool→Nat→Nat→Nat→List Nd
 | [],_,_,_,_=>[]
 | r::rs,q,n,p,c=>tabE r n p (if q=true∧rs≠[] then n+sizeE r else 0) c++tabL rs q (n+sizeE r) p (c+cntE r)
end
theorem tab_len (r:Re):∀ n p nx c,(tabE r n p nx c).length=sizeE r:=by
 induction r using Re.ind with
 | h k S ks lo hi g ih=>
   intro n p nx c;rw[tabE,sizeE,List.length_cons]
   have:∀ q n p c,(tabL ks q n p c).length=sizeL ks:=by
    induction ks with
    | nil=>intros;rw[tabL,sizeL];rfl
    | cons r l ihl=>
      intro q n p c;rw[tabL,sizeL,List.length_append,ih r (List.mem_cons_self ..),ihl (fun x hx=>ih x (List.mem_cons_of_mem _ hx))]
   rw[this];omega
theorem tabL_len:∀ (l:List Re) q n p c,(tabL l q n p c).length=sizeL l
 | [],_,_,_,_=>by rw[tabL,sizeL];rfl
 | r::l,q,n,p,c=>by rw[tabL,sizeL,List.length_append,tab_len,tabL_len l]
theorem sizeE_pos (r:Re):0<sizeE r:=by cases r;rw[sizeE];omega
def Sub (T:List Nd) (n:Nat) (r:Re) (p nx c:Nat):Prop:=∃ z,T.drop n=tabE r n p nx c++z
def SubL (T:List Nd) (n:Nat) (l:List Re) (q:Bool) (p c:Nat):Prop:=∃ z,T.drop n=tabL l q n p c++z
def ndOf (r:Re) (n p nx c:Nat):Nd:=⟨r,kidsAt (n+1) r.kids,p,nx,if cntQ r=true then c+1 else 0⟩
theorem sub_at {T:List Nd} {n p nx c:Nat} {r:Re} (h:Sub T n r p nx c):T[n]?=some (ndOf r n p nx c):=by
 obtain⟨z,h⟩:=h;have e:=congrArg (fun l=>l[0]?) h;simp only[List.getElem?_drop,Nat.add_zero] at e;rw[e]
 cases r with
 | mk k S ks lo hi g=>rw[tabE];rfl
theorem sub_kids {T:List Nd} {n p nx c:Nat} {r:Re} (h:Sub T n r p nx c):SubL T (n+1) r.kids (decide (r.kind=4)) n (if cntQ r=true then c+1 else c):=by
 obtain⟨z,h⟩:=h
 cases r with
 | mk k S ks lo hi g=>
   rw[tabE] at h;have e:=congrArg (List.drop 1) h;rw[List.drop_drop] at e;exact⟨z,e⟩
theorem subL_cons {T:List Nd} {n p c:Nat} {q:Bool} {r:Re} {rs:List Re} (h:SubL T n (r::rs) q p c):
  Sub T n r p (if q=true∧rs≠[] then n+sizeE r else 0) c∧SubL T (n+sizeE r) rs q p (c+cntE r):=by
 obtain⟨z,h⟩:=h;rw[tabL,List.append_assoc] at h;refine⟨⟨_,h⟩,z,?_⟩;have e:=congrArg (List.drop (sizeE r)) h;rw[List.drop_drop,List.drop_left' (tab_len _ _ _ _ _)] at e;exact e
def Fine:Re→Prop
 | .mk k S ks lo hi n=>told (.mk k S ks lo hi n)=true∧lev k≤3∧∀ r,r∈ks→Fine r
theorem good_of_form (r:Re):∀ {lv d g x:Nat},lv≤3→form r lv d g=some x→Fine r:=by
 induction r using Re.ind with
 | h k S ks lo hi n ih=>
   intro lv d g x hlv h;rw[form] at h
   split at h
   ·rename_i h1
    have hL:∀ (l:List Re),(∀ r∈l,r∈ks)→∀ {lv d g x:Nat},lv≤3→formL l lv d g=some x→∀ r,r∈l→Fine r:=by
     intro l
     induction l with
     | nil=>intro _ _ _ _ _ _ _ r hr;cases hr
     | cons y l ihl=>
       intro hx lv d g x h3 h4 r hr;rw[formL] at h4
       split at h4
       ·cases h4
       ·rename_i g' hg
        rcases List.mem_cons.1 hr with rfl | hr
        ·exact ih _ (hx _ (List.mem_cons_self ..)) h3 hg
        ·exact ihl (fun z hz=>hx z (List.mem_cons_of_mem _ hz)) h3 h4 r hr
    rw[Fine];refine⟨h1.2,by omega,?_⟩
    split at h
    ·split at h
     ·exact hL ks (fun _ h=>h) (by omega) h
     ·cases h
    ·exact hL ks (fun _ h=>h) (by unfold levK;split <;> (try split) <;> (try split) <;> omega) h
   ·cases h
theorem Fine.kids {r x:Re} (h:Fine r) (hx:x∈r.kids):Fine x:=by
 cases r with
 | mk k S ks lo hi n=>rw[Fine] at h;exact h.2.2 x hx
theorem Fine.cases {r:Re} (h:Fine r):
  (r.kind=0∧r.kids=[])∨(r.kind=1∧r.kids=[])∨(r.kind=2∧r.kids=[])∨(r.kind=3∧r.kids=[])∨
  (r.kind=4∧∃ x y l,r.kids=x::y::l)∨(r.kind=5∧∃ x y l,r.kids=x::y::l)∨
  (r.kind=6∧(∃ x,r.kids=[x])∧0≤r.lo∧r.lo≤8∧(r.hi= -1∨r.lo≤r.hi∧r.hi≤8))∨(r.kind=7∧∃ x,r.kids=[x]):=by
 cases r with
 | mk k S ks lo hi n=>
   rw[Fine] at h;obtain⟨h1,h2,_⟩:=h;simp only[Re.kind,Re.kids,Re.lo,Re.hi];unfold told at h1;simp only[Bool.and_eq_true] at h1;obtain⟨_,_,h3⟩:=h1
   have hk:k=0∨k=1∨k=2∨k=3∨k=4∨k=5∨k=6∨k=7:=by
    unfold lev at h2
    split at h2
    ·omega
    ·split at h2
     ·omega
     ·split at h2
      ·omega
      ·split at h2
       ·omega
       ·omega
   have two:∀ {l:List Re},2≤l.length→∃ x y l',l=x::y::l':=by
    intro l hl
    match l,hl with
    | x::y::l',_=>exact⟨x,y,l',rfl⟩
   have one:∀ {l:List Re},l.length=1→∃ x,l=[x]:=by
    intro l hl
    match l,hl with
    | [x],_=>exact⟨x,rfl⟩
   have six:k=6→(∃ x,ks=[x])∧bound lo hi=true:=by
    intro h6;rw[if_pos h6,Bool.and_eq_true] at h3;refine⟨?_,h3.2⟩
    match ks,h3.1 with
    | [x],_=>exact⟨x,rfl⟩
   have rest:k≠6→(if k=7 then decide (ks.length=1) else if k=4∨k=5 then decide (2≤ks.length) else decide (ks.length=0))=true:=by
    intro h6;rw[if_neg h6] at h3;simp only[Bool.and_eq_true] at h3;exact h3.2.2
   rcases hk with rfl | rfl | rfl | rfl | rfl | rfl | rfl | rfl
   ·exact .inl ⟨rfl,by simpa using rest (by decide)⟩
   ·exact .inr (.inl ⟨rfl,by simpa using rest (by decide)⟩)
   ·exact .inr (.inr (.inl ⟨rfl,by simpa using rest (by decide)⟩))
   ·exact .inr (.inr (.inr (.inl ⟨rfl,by simpa using rest (by decide)⟩)))
   ·exact .inr (.inr (.inr (.inr (.inl ⟨rfl,two (by simpa using rest (by decide))⟩))))
   ·exact .inr (.inr (.inr (.inr (.inr (.inl ⟨rfl,two (by simpa using rest (by decide))⟩)))))
   ·obtain⟨h4,h5⟩:=six rfl
    unfold bound at h5;simp only[Bool.and_eq_true,Bool.or_eq_true,decide_eq_true_eq] at h5;exact .inr (.inr (.inr (.inr (.inr (.inr (.inl ⟨rfl,h4,h5.1,h5.2.1,by omega⟩))))))
   ·exact .inr (.inr (.inr (.inr (.inr (.inr (.inr ⟨rfl,one (by simpa using rest (by decide))⟩))))))
theorem good_all (R:Re) (hR:Fine R):∀ {T:List Nd} {n p nx c:Nat},Sub T n R p nx c→∀ m,n≤m→m<n+sizeE R→∃ r p' nx' c',Sub T m r p' nx' c'∧Fine r:=by
 induction R using Re.ind with
 | h k S ks lo hi g ih=>
   intro T n p nx c h m h1 h2;by_cases hm:m=n
   ·subst hm;exact⟨_,_,_,_,h,hR⟩
   ·have hk:=sub_kids h
    rw[sizeE] at h2
    have hL:∀ (l:List Re),(∀ r∈l,r∈ks)→∀ a c q,SubL T a l q n c→a≤m→m<a+sizeL l→∃ r' p' nx' c',Sub T m r' p' nx' c'∧Fine r':=by
     intro l
     induction l with
     | nil=>intro _ a c q _ h3 h4;rw[sizeL] at h4;omega
     | cons x l ihl=>
       intro hx a c q h3 h4 h5;obtain⟨s1,s2⟩:=subL_cons h3;rw[sizeL] at h5;by_cases hc:m<a+sizeE x
       ·exact ih x (hx x (List.mem_cons_self ..)) (hR.kids (hx x (List.mem_cons_self ..))) s1 m h4 hc
       ·exact ihl (fun y hy=>hx y (List.mem_cons_of_mem _ hy)) _ _ _ s2 (by omega) (by omega)
    exact hL ks (fun _ h=>h) _ _ _ hk (by omega) (by omega)
theorem empty_times {R:Nat→Nat→Prop} {i:Nat} (h:R i i):∀ n,TimesW R n i i
 | 0=>rfl
 | n+1=>⟨i,h,empty_times h n⟩
theorem way_le (s:Bs) (b e:Bool) (r:Re):∀ i j,Way s b e r i j→i≤j:=by
 induction r using Re.ind with
 | h k S ks lo hi n ih=>
   have hL:∀ (l:List Re),(∀ r∈l,r∈ks)→(∀ i j,WayL s b e l i j→i≤j)∧∀ i j,WayA s b e l i j→i≤j:=by
    intro l
    induction l with
    | nil=>intro _;refine⟨fun i j h=>?_,fun i j h=>?_⟩ <;> simp only[WayL,WayA] at h;omega
    | cons x l ihl=>
      intro hx;obtain⟨a1,a2⟩:=ihl fun y hy=>hx y (List.mem_cons_of_mem _ hy)
      have hx0:=ih x (hx x (List.mem_cons_self ..));refine⟨fun i j h=>?_,fun i j h=>?_⟩
      ·rw[WayL] at h
       obtain⟨m,h1,h2⟩:=h;have:=hx0 _ _ h1;have:=a1 _ _ h2;omega
      ·rw[WayA] at h
       rcases h with h | h
       ·exact hx0 _ _ h
       ·exact a2 _ _ h
   obtain⟨h1,h2⟩:=hL ks fun _ h=>h
   have hT:∀ n i j,TimesW (WayL s b e ks) n i j→i≤j:=by
    intro n
    induction n with
    | zero=>intro i j h;rw[TimesW] at h;omega
    | succ n ihn=>intro i j h;rw[TimesW] at h;obtain⟨m,h3,h4⟩:=h;have:=h1 _ _ h3;have:=ihn _ _ h4;omega
   intro i j h;rw[Way] at h
   split at h
   ·omega
   split at h
   ·obtain⟨c,_,_,h⟩:=h;omega
   split at h
   ·omega
   split at h
   ·omega
   split at h
   ·exact h2 _ _ h
   split at h
   ·obtain⟨n,_,_,h⟩:=h;exact hT _ _ _ h
   ·exact h1 _ _ h
theorem timesW_le {s:Bs} {b e:Bool} {l:List Re}:∀ n i j,TimesW (WayL s b e l) n i j→i≤j
 | 0,i,j,h=>by rw[TimesW] at h;omega
 | n+1,i,j,h=>by
   rw[TimesW] at h;obtain⟨m,h1,h2⟩:=h
   have:WayL s b e l i m→i≤m:=by
    clear h1 h2;intro h;have:=way_le s b e (.mk 4 none4 l 0 0 0) i m (by rw[Way];simpa using h);exact this
   have:=this h1;have:=timesW_le n m j h2;omega
theorem empty_way (s:Bs) (b e:Bool) (i:Nat) {b' e':Bool} (hb:b'=true→b=true∧i=0) (he:e'=true→e=true∧i=s.length) (r:Re) (hr:Fine r):emptyE b' e' r=true→Way s b e r i i:=by
 induction r using Re.ind with
 | h k S ks lo hi n ih=>
   have hL:∀ (l:List Re),(∀ r∈l,r∈ks)→(allE b' e' l=true→WayL s b e l i i)∧(anyE b' e' l=true→WayA s b e l i i):=by
    intro l
    induction l with
    | nil=>intro _;exact⟨fun _=>by rw[WayL],fun h=>by rw[anyE] at h;cases h⟩
    | cons x l ihl=>
      intro hx;obtain⟨a1,a2⟩:=ihl fun y hy=>hx y (List.mem_cons_of_mem _ hy)
      have hx0:=ih x (hx x (List.mem_cons_self ..)) (hr.kids (hx x (List.mem_cons_self ..)))
      constructor
      ·intro h
       rw[allE,Bool.and_eq_true] at h;rw[WayL];exact⟨i,hx0 h.1,a1 h.2⟩
      ·intro h
       rw[anyE,Bool.or_eq_true] at h;rw[WayA]
       rcases h with h | h
       ·exact .inl (hx0 h)
       ·exact .inr (a2 h)
   obtain⟨h1,h2⟩:=hL ks fun _ h=>h
   intro h
   have one:∀ x,ks=[x]→anyE b' e' ks=true→WayL s b e ks i i:=by
    rintro x rfl h;have:=h2 h;rw[WayA,WayA] at this;rw[WayL];refine⟨i,?_,by rw[WayL]⟩;simpa using this
   rw[emptyE] at h;have hc:=hr.cases;simp only[Re.kind,Re.kids,Re.lo,Re.hi] at hc;rw[Way]
   rcases hc with ⟨rfl,hk⟩ | ⟨rfl,hk⟩ | ⟨rfl,hk⟩ | ⟨rfl,hk⟩ | ⟨rfl,hk⟩ | ⟨rfl,hk⟩ | ⟨rfl,⟨x,hk⟩,hl,hl8,hh⟩ | ⟨rfl,⟨x,hk⟩⟩ <;> simp at h ⊢
   ·subst hk;rw[anyE] at h;cases h
   ·exact(hb h).symm
   ·exact(he h).symm
   ·exact h1 h
   ·exact h2 h
   ·rcases h with h | h
    ·exact⟨0,by omega,by omega,rfl⟩
    ·refine⟨lo.toNat,by omega,by omega,empty_times (one x hk h) _⟩
   ·exact one x hk h
theorem way_empty (s:Bs) (b e:Bool) (i:Nat) (r:Re) (hr:Fine r):Way s b e r i i→emptyE (b && decide (i=0)) (e && decide (i=s.length)) r=true:=by
 induction r using Re.ind with
 | h k S ks lo hi n ih=>
   have hL:∀ (l:List Re),(∀ r∈l,r∈ks)→(WayL s b e l i i→allE (b && decide (i=0)) (e && decide (i=s.length)) l=true)∧(WayA s b e l i i→anyE (b && decide (i=0)) (e && decide (i=s.length)) l=true):=by
    intro l
    induction l with
    | nil=>intro _;exact⟨fun _=>by rw[allE],fun h=>by rw[WayA] at h;cases h⟩
    | cons x l ihl=>
      intro hx;obtain⟨a1,a2⟩:=ihl fun y hy=>hx y (List.mem_cons_of_mem _ hy)
      have hx0:=ih x (hx x (List.mem_cons_self ..)) (hr.kids (hx x (List.mem_cons_self ..)))
      constructor
      ·intro h
       rw[WayL] at h;obtain⟨m,h3,h4⟩:=h;have g1:=way_le _ _ _ _ _ _ h3;have g2:=way_le s b e (.mk 4 none4 l 0 0 0) m i (by rw[Way];simpa using h4);have:m=i:=by omega
       subst this;rw[allE,Bool.and_eq_true];exact⟨hx0 h3,a1 h4⟩
      ·intro h
       rw[WayA] at h;rw[anyE,Bool.or_eq_true]
       rcases h with h | h
       ·exact .inl (hx0 h)
       ·exact .inr (a2 h)
   obtain⟨h1,h2⟩:=hL ks fun _ h=>h
   intro h
   have one:∀ x,ks=[x]→WayL s b e ks i i→anyE (b && decide (i=0)) (e && decide (i=s.length)) ks=true:=by
    rintro x rfl h;refine h2 ?_;rw[WayL] at h;obtain⟨m,h3,h4⟩:=h;rw[WayL] at h4;subst h4;rw[WayA];exact .inl h3
   rw[emptyE];have hc:=hr.cases;simp only[Re.kind,Re.kids,Re.lo,Re.hi] at hc;rw[Way] at h
   rcases hc with ⟨rfl,hk⟩ | ⟨rfl,hk⟩ | ⟨rfl,hk⟩ | ⟨rfl,hk⟩ | ⟨rfl,hk⟩ | ⟨rfl,hk⟩ | ⟨rfl,⟨x,hk⟩,hl,hl8,hh⟩ | ⟨rfl,⟨x,hk⟩⟩ <;> simp at h ⊢
   ·obtain⟨h,h'⟩:=h;exact⟨h',h⟩
   ·obtain⟨h,h'⟩:=h;exact⟨h',h⟩
   ·simpa using h1 h
   ·simpa using h2 h
   ·obtain⟨n,g1,g2,g3⟩:=h
    cases n with
    | zero=>left;omega
    | succ n=>
      right
      rw[TimesW] at g3;obtain⟨m,g4,g5⟩:=g3;have q1:=way_le s b e (.mk 4 none4 ks 0 0 0) i m (by rw[Way];simpa using g4);have q2:=timesW_le _ _ _ g5;have:m=i:=by omega
      subst this;simpa using one x hk g4
   ·simpa using one x hk h
end Go.Proofs.YtiafefjaldcpbaaDoor
